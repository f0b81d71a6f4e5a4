import Derived.Test.YtndkhgakfodldaaGreatDoorYa
namespace Go.Proofs.YtndkhgakfodldaaGreatDoor
set_option maxRecDepth 100000
set_option maxHeartbeats 6400000
open Go.RowKit Go.Maps Go.WideMaps
set_option linter.unusedSimpArgs false
set_option linter.unusedVariables false
theorem Tryz.infoInt:(Tryz.prog.info? 3).map (fun i=>(i.zero,i.size,i.bytes))=some (some (qi 0),1,8):=by kernel_rfl
theorem Wri.new {w0 w:World} {K:List (Nat × Obj)} (hb:qb w0 w) (hK:∀ x ∈ K,w.heap[x.1]? = some x.2):Wri w0 (w.alloc (.cells #[qs,qs] 136)) w.heap.size K wr0:=
 ⟨vaa _,_,_,{
  blk:=heap_newP _ _
  hR:=hb.size
  code:=vek _ _ _ _
  fix:=vek _ _ _ _
  apt:=Apt.nil _
  nc:=fun e=>by simp [Value.ownBlock] at e
  nf:=fun e=>by simp [Value.ownBlock] at e
  below:=hb.alloc hb.size _
  kp:=fun x hx=>⟨zab (hK x hx),fun e=>by have:=lt_of_heap (hK x hx);omega,fun e=>by simp [Value.ownBlock] at e,fun e=>by simp [Value.ownBlock] at e⟩}⟩
theorem zin {u:Un} (h:zdo u=true):u.uses.length<=3:=by
 unfold zdo at h;rw [vac] at h;exact (zfb (zpd (of_decide_eq_true h.1))).1
theorem z8h {W:World} {B:Nat} {e:TypeId} {sz:Nat} {v:Value} {n:Nat} {xs:List Value} {b:Nat} (h:W.ownsRow B e sz v n xs) (hb:v.ownBlock≠some b) (v0 v1 v2 v3 v4 v5 v6:Value) :
 (((((((W.setCell (qa b 0) v0).setCell (qa b 1) v1).setCell (qa b 2) v2).setCell (qa b 3) v3).setCell (qa b 4) v4).setCell (qa b 5) v5).setCell (qa b 6) v6).ownsRow B e sz v n xs:=by
 refine zai h (fun k hk=>?_)
 have Ak:k≠b:=fun e=>hb (by rw [hk,e])
 rw [heap_set_ne (p:=(qa b 6)) Ak,heap_set_ne (p:=(qa b 5)) Ak,heap_set_ne (p:=(qa b 4)) Ak,heap_set_ne (p:=(qa b 3)) Ak,heap_set_ne (p:=(qa b 2)) Ak,heap_set_ne (p:=(qa b 1)) Ak,heap_set_ne (p:=(qa b 0)) Ak]
theorem zok {W:World} {B B':Nat} {e:TypeId} {sz:Nat} {v:Value} {n:Nat} {xs:List Value} (h:W.ownsRow B e sz v n xs) (hb:B'<=B):W.ownsRow B' e sz v n xs:=by
 refine ⟨h.1,?_⟩
 rcases h.2 with h1 | ⟨g,cap,AC,hv,hB,hr⟩
 . exact Or.inl h1
 . exact Or.inr ⟨g,cap,AC,hv,vbc hb hB,hr⟩
theorem Wre.has {w0 w:World} {R:Nat} {K:List (Nat × Obj)} {s:Wrt} {v:Value} {es:List Int} (h:Wre w0 w R K s v es) {b:Nat} {o:Obj} (hx:(b,o) ∈ K):w.heap[b]? = some o:=h.wri.has hx
theorem z7f (u:Un) (x1:OA) (y1:Nat) (x2:OA) (y2:Nat) (x3:OA) (y3:Nat) (w:World) (hU:UvAt w u x1 y1 x2 y2 x3 y3) (hc:Go.Lib.containsS u.uses u.name=false) (hh:ze0 u ziy zig=true) :
 qc 31 #[.agg #[.string u.name,.slice x1 u.uses.length y1,qi u.data,.slice x2 u.parts.length y2,.slice x3 u.main.length y3]] w fun e w'=>zjf w u e w'/\qb w w':=by
 have Af:Hid (qb w ((w.alloc (kzC u.name x1 u.uses.length y1 u.data x2 u.parts.length y2 x3 u.main.length y3)).alloc (kzD ⟨#[]⟩ none 0 0 0 none 0 0 none 0 0 none 0 0 0))):=((Below.refl _ _).alloc (vaa _) _).alloc (by simp) _;have HC:=hid (zfs u.uses u.name x1 y1 _ (hU.later Af.out).uses);have HH:=hid (zrn u x1 y1 x2 y2 x3 y3 _ (hU.later Af.out));have A6:=hU.uses.bound;have SK:=hU.parts.bound;have HU:=hid hU;have HL:=hid (fun j hj=>zlx hh j hj);have HP:=hid (zb0 hh);have h6:=zid HP.out.2.2;have Ku:u.uses.length<=3:=zin HP.out.2.2;have HE:=hid (zty hh)
 have L1:Hid (¬ (Go.Lib.containsS u.uses u.name || !ze0 u ziy zig)=true):=by show ¬ _;rw [hc,hh];decide
 rw [hc] at HC;rw [hh] at HH;clear hc hh hU;go_enter Tryz.func31,Tryz.ntmps31;go_wp2_with fail;refine HC.out.mono ?_;rintro e w' ⟨rfl,rfl⟩;go_wp2_with fail;refine HH.out.mono ?_;rintro e w3 ⟨rfl,A9⟩
 have HK:Hid (∀ x ∈ [(w.heap.size,(kzC u.name x1 u.uses.length y1 u.data x2 u.parts.length y2 x3 u.main.length y3)),(w.heap.size+1,(kzD ⟨#[]⟩ none 0 0 0 none 0 0 none 0 0 none 0 0 0))],w3.heap[x.1]? = some x.2):=fun x hx=>by
  have h1:=heap_newP (w.alloc (kzC u.name x1 u.uses.length y1 u.data x2 u.parts.length y2 x3 u.main.length y3)) (kzD ⟨#[]⟩ none 0 0 0 none 0 0 none 0 0 none 0 0 0);rw [vcm] at h1;have h2:((w.alloc (kzC u.name x1 u.uses.length y1 u.data x2 u.parts.length y2 x3 u.main.length y3)).alloc (kzD ⟨#[]⟩ none 0 0 0 none 0 0 none 0 0 none 0 0 0)).heap[w.heap.size]? = some (kzC u.name x1 u.uses.length y1 u.data x2 u.parts.length y2 x3 u.main.length y3):=zab (heap_newP w (kzC u.name x1 u.uses.length y1 u.data x2 u.parts.length y2 x3 u.main.length y3))
  rcases vca.1 hx with rfl | hx
  . exact (A9.block w.heap.size (by simp;omega)).trans h2
  . rw [vcg] at hx
    subst hx;exact (A9.block (w.heap.size+1) (by simp)).trans h1
 have HW:=hid (Wri.new (thenB Af.out A9) HK.out);obtain ⟨u0,u1,u2,u3,u4,uf⟩:=zaa (HK.out (w.heap.size,(kzC u.name x1 u.uses.length y1 u.data x2 u.parts.length y2 x3 u.main.length y3)) (var ..));have Qh:=lt_of_heap (HK.out (w.heap.size,(kzC u.name x1 u.uses.length y1 u.data x2 u.parts.length y2 x3 u.main.length y3)) (var ..));clear A9;go_wp2_with fail;clear u0 u1 u2 u3 u4 uf Qh;generalize hR:w3.heap.size=R at *;generalize PU:w3.alloc (.cells #[qs,qs] 136)=w4 at *
 go_loopw [5,28] (fun v i wr=>∃ j:Nat,j<=u.parts.length/\i=qi j/\Wre w wr R [(w.heap.size,(kzC u.name x1 u.uses.length y1 u.data x2 u.parts.length y2 x3 u.main.length y3)),(w.heap.size+1,(kzD ⟨#[]⟩ none 0 0 0 none 0 0 none 0 0 none 0 0 0))] (zb1 (u.parts.take j)) v (zje u.parts j)) (fun _ i _=>u.parts.length - (intOf i).toNat)
 case atStart=>exact ⟨0,vag _,rfl,Wre.start HW.out⟩
 case round=>
  obtain ⟨j,hj,rfl,hw⟩:=hrel;have H1:=hid hw;obtain ⟨ea,ec,rfl, -, -⟩:=hw.form;rw [zdp] at *;clear hw
  by_cases A4:j<u.parts.length
  . obtain ⟨b,off,pa,pc,rfl,hx⟩:=HU.out.parts.pt j A4
    have hB:=H1.out.wri.below;have Au:b<wr.heap.size:=vah hx.lt hB.size;have z0:=(hB.cell (p:=⟨b,off+j*3,none⟩) hx.lt).trans hx.c0;have z1:=(hB.cell (p:=⟨b,off+j*3+1,none⟩) hx.lt).trans hx.c1;have z2:=(hB.cell (p:=⟨b,off+j*3+2,none⟩) hx.lt).trans hx.c2;have HA:=hid hx.body';have HT:=hid (zhi u.parts j A4);have HQ:=hid (HP.out.1 _ (vaj A4));have HS:=hid (HL.out (j+1) (by omega));have Tn:=hid (HL.out j hj);rw [HT.out] at HS;clear hx hB;generalize u.parts[j]=p at *;have HB:=hid (H1.out.box (kzL p.params p.locals pa p.body.length pc));have GA:=hid HB.out.own;rw [zdp] at GA;go_wp2_with fail;refine (zgp HB.out.wri).mono ?_;rintro e w5 ⟨rfl,rfl⟩
    go_wp2_with (at_builtin;refine zj6 rfl (.tmp 32) (.tmp 35) 49 rfl w.heap.size 3 _ 1 8 Tryz.underlying49 Tryz.infoInt rfl (by decide) (wr.alloc (kzL p.params p.locals pa p.body.length pc)) (.slice ea j ec) j (intV (zje u.parts j)) rfl GA.out #[qi (zb1 (u.parts.take j)).code.length] (wr.heap.size+1) (by simp) rfl rfl (by simp;rfl) (by omega) (by decide) HB.out.wri.below.size _ rfl ?_;intro g5 c5 w5 ho;have HO:=hid (HB.out.onto (x:=((zb1 (u.parts.take j)).code.length:Int)) (by rw [zdp];exact ho));rw [zdp,← ztx] at HO;obtain ⟨q0,q1,q2, -⟩:=zev (HO.out.has (var ..));clear ho)
    refine (HO.out.call (fun K' h=>zrm (cap:=pc) HQ.out HA.out h (by have:=HS.out;omega))).mono ?_;rintro e w6 ⟨rfl,h6'⟩;have H6:=hid h6';clear h6' q0 q1 q2;go_wp2_with fail;go_roundw
    case rel=>exact ⟨j+1,by omega,by go_num,by rw [HT.out];exact H6.out.tail⟩
    case measure=>simp [intOf];omega
  . obtain rfl:j=u.parts.length:=by omega
    rw [vau] at H1;have CB:=hid (HL.out _ (vaa _));rw [vau] at CB;obtain ⟨u0,u1,u2,u3,u4,uf⟩:=zaa (H1.out.has (var ..));go_wp2_with fail;refine (zgp H1.out.wri).mono ?_;rintro e w5 ⟨rfl,rfl⟩;go_wp2_with fail;refine (H1.out.call (fun K' h=>zrm (p:=⟨0,0,u.main⟩) (cap:=y3) HP.out.2.1 HU.out.main h (by have:=HE.out;unfold genS at this;omega))).mono ?_;rintro e w6 ⟨rfl,h6'⟩;have H6:Hid (Wre w w6 R [(w.heap.size,(kzC u.name x1 u.uses.length y1 u.data x2 u.parts.length y2 x3 u.main.length y3)),(w.heap.size+1,(kzD ⟨#[]⟩ none 0 0 0 none 0 0 none 0 0 none 0 0 0))] (genS u) (.slice ea u.parts.length ec) (zje u.parts u.parts.length)):=h6';clear h6' u0 u1 u2 u3 u4 uf;go_wp2_with fail;refine (znx H6.out.wri).mono ?_
    cases hf:zhh (genS u) with
    | true=>
      rintro e w7 ⟨rfl,rfl⟩
      have HG:Hid (zw5 u = .error 2):=by show _=_;unfold zw5;rw [if_neg L1.out,if_pos hf]
      have hk:=H6.out.has (b:=w.heap.size+1) (vai _ (var ..));obtain ⟨q0,q1,q2,q3,q4,q5,q6,qz⟩:=zao hk;have CO:=lt_of_heap hk
      have CY:∀ j,w7.frozen? ⟨w.heap.size+1,j,none⟩=false:=fun j=>veg hk j
      have Cw:=hid H6.out.wri.below;clear hk hf;go_wp2_with fail;refine bodyPost_ret (v:=.tuple #[.agg #[.string ⟨#[]⟩,qs,qi 0,qs,qs,qs,qi 0],qi 2]) (by simp [results,Tryz.results31,go_sem,q0,q1,q2,q3,q4,q5,q6,CO]) rfl ⟨by unfold zjf;rw [HG.out],?_⟩;exact z0u Cw.out (by omega) _ _ _ _ _ _ _
    | false=>
      rintro e w7 ⟨rfl,rfl⟩
      have HG:Hid (zw5 u = .ok (zps u)):=by show _=_;unfold zw5;rw [if_neg L1.out,if_neg (by rw [hf];decide)]
      obtain ⟨u0,u1,u2,u3,u4,uf⟩:=zaa (H6.out.has (var ..));have Gb:=lt_of_heap (H6.out.has (var ..));have Io:=H6.out.has (b:=w.heap.size+1) (vai _ (var ..));obtain ⟨v',w8,hr8,ho8,hg8⟩:=zdb w7.heap.size 22 (qs) 0 [] (vek _ _ _ _) u.uses x1 y1 (zel (HU.out.later H6.out.wri.below).uses).1 (by omega) (vaa _);rw [vba,List.nil_append] at ho8;have AQ:qb w7 w8:=(Below.refl _ w7).grown hg8 (vaa _) (fun k hk=>by simp [Value.ownBlock] at hk);have CT:=hid ho8;have JO:=hid hr8;have QX:=H6.out.later AQ;obtain ⟨E,hE,⟨Fv,cv,fv,hA⟩,hxx⟩:=QX;have Mr:=(H6.out.later AQ).own;rw [zdp] at Mr
      have EK:=(hA.kp (w.heap.size+1,(kzD ⟨#[]⟩ none 0 0 0 none 0 0 none 0 0 none 0 0 0)) (vby _ (vai _ (var ..))))
      have GE:=(hA.kp (w.heap.size,(kzC u.name x1 u.uses.length y1 u.data x2 u.parts.length y2 x3 u.main.length y3)) (vby _ (var ..))).1;have N3:=hid (hxx (w.heap.size+1,(kzD ⟨#[]⟩ none 0 0 0 none 0 0 none 0 0 none 0 0 0)) (vai _ (var ..)))
      have G1:Hid (v'.ownBlock≠some (w.heap.size+1)):=fun e=>by
       have h1:=(CT.out.lt _ e).1;have h2:=lt_of_heap Io;omega
      have G9:=hid hA;have Ni:=hid Mr;have P4:=hid EK;obtain ⟨ua,uc,rfl, -⟩:=zj4 ho8;obtain ⟨ca,cc,rfl, -, -⟩:=zal hA.code;obtain ⟨fa,fc,rfl, -, -⟩:=zal hA.fix;obtain ⟨c0,c1, -⟩:=G9.out.cells;have Bh:=G9.out.ltR;obtain ⟨q0,q1,q2,q3,q4,q5,q6,qz⟩:=zao EK.1
      have CY:∀ j,w8.frozen? ⟨w.heap.size+1,j,none⟩=false:=fun j=>veg EK.1 j
      have CP:=lt_of_heap EK.1;clear AQ ho8 hg8 hr8 hf hE Fv hA hxx Mr Io EK
      go_wp2_with (at_builtin;refine Lib.wpList_append_run _ rfl _ _ _ _ rfl _ _ rfl rfl _ w8 JO.out ?_)
      clear u0 u1 u2 u3 u4 uf Gb;obtain ⟨u0,u1,u2,u3,u4,uf⟩:=zaa GE;have Gb:=lt_of_heap GE;clear GE;have RH:Hid (w.heap.size<=w7.heap.size):=H6.out.wri.below.size
      go_region
      go_wp2_with fail;refine bodyPost_ret (v:=.tuple #[.agg #[.string u.name,.slice ua u.uses.length uc,qi u.data,.slice ca (genS u).code.length cc,.slice fa (genS u).fixes.length fc,.slice ea u.parts.length ec,qi (zb1 u.parts).code.length],qi 0]) (by simp [results,Tryz.results31,go_sem,q0,q1,q2,q3,q4,q5,q6,CP]) rfl ⟨?_,?_⟩
      . unfold zjf
        rw [HG.out];have ES:(zps u).entries.length=u.parts.length:=zdp ..;refine ⟨ua,uc,ca,cc,fa,fc,ea,ec,by rw [ES];rfl,?_,?_,?_,?_⟩
        . exact (zok (z8h CT.out G1.out _ _ _ _ _ _ _) RH.out).drew
        . exact (z8h G9.out.code P4.out.2.2.1 _ _ _ _ _ _ _).drew
        . exact (z8h G9.out.fix P4.out.2.2.2 _ _ _ _ _ _ _).drew
        . rw [ES]
          exact (z8h Ni.out N3.out _ _ _ _ _ _ _).drew
      . exact (z0u G9.out.below (by omega) _ _ _ _ _ _ _).drew
theorem z49 (u:Un) (x1:OA) (y1:Nat) (x2:OA) (y2:Nat) (x3:OA) (y3:Nat) (w:World) (hU:UvAt w u x1 y1 x2 y2 x3 y3) :
 qc 31 #[.agg #[.string u.name,.slice x1 u.uses.length y1,qi u.data,.slice x2 u.parts.length y2,.slice x3 u.main.length y3]] w fun e w'=>zjf w u e w'/\qb w w':=by
 by_cases hc:(Go.Lib.containsS u.uses u.name || !ze0 u ziy zig)=true
 . exact z3o u x1 y1 x2 y2 x3 y3 w hU hc
 . simp only [vcs,vat] at hc
   exact z7f u x1 y1 x2 y2 x3 y3 w hU hc.1 (by simpa using hc.2)
def Gi.ds (i:Gi):List D:=[.int i.op,.int i.a,.int i.b]
def zv5 (l:List Gi):List D:=l.flatMap Gi.ds
def Gf.ds (f:Gf):List D:=[.int f.at_,.int f.kind,.int f.m]
def z1u (l:List Gf):List D:=l.flatMap Gf.ds
def zfy (l:List Int):List D:=l.map D.int
def Ob.ds (o:Ob):List D:=[.str o.name,.list o.uses.length (zaj o.uses),.int o.data,.list o.code.length (zv5 o.code),.list o.fixes.length (z1u o.fixes),.list o.entries.length (zfy o.entries),.int o.main]
structure OvAt (w:World) (o:Ob) (x1:OA) (x3:OA) (x4:OA) (x5:OA):Prop where
 wn:o.name.size<=maxLen
 uses:DAt w Tt x1 o.uses.length (zaj o.uses)
 wd:(Lit.int .i64 o.data).wf=true
 code:DAt w Tt x3 o.code.length (zv5 o.code)
 fixes:DAt w Tt x4 o.fixes.length (z1u o.fixes)
 entries:DAt w Tt x5 o.entries.length (zfy o.entries)
 wm:(Lit.int .i64 o.main).wf=true
theorem OvAt.later {w w':World} {o:Ob} {x1 x3 x4 x5:OA} (h:OvAt w o x1 x3 x4 x5) (hb:qb w w'):OvAt w' o x1 x3 x4 x5:=
 ⟨h.wn,h.uses.later hb,h.wd,h.code.later hb,h.fixes.later hb,h.entries.later hb,h.wm⟩
def zhu (o:Ob):Bool:=decide (3<o.uses.length)||(decide (6<o.entries.length)||(decide (o.code.length<1)||decide (2048<o.code.length)))
def zdi (o:Ob) (x:Int):Bool:=decide (0<=x/\x<o.code.length)
theorem zqk (s:ByteArray) (w:World) (hs:s.size<=maxLen) :
 qc 131 #[.string s] w fun e w'=>e = .returned (.bool (Lx.zby s.data.toList))/\qb w w':=by
 have HK:Hid ((zc1 [⟨1,0,s⟩] == 0)=Lx.zby s.data.toList):=by rw [← zu5];exact znk ⟨1,0,s⟩ rfl
 have HC:Hid (∀ (w1:World) (n:Nat),n=w1.heap.size->qc 116 #[.slice (some (qa n 0)) 1 1] (w1.alloc (.cells #[qi 1,qi 0,.string s] 184)) fun e w'=>e = .returned (qi (zc1 [⟨1,0,s⟩]))/\qb w1 w'):=
  fun w1 n hn=>by
   subst hn;refine (Check_any _ 1 [⟨1,0,s⟩] _ (zzq ⟨1,0,s⟩ w1 hs) (by simp)).mono ?_;rintro e w' ⟨rfl,hb⟩;exact ⟨rfl,((Below.refl _ _).alloc (vaa _) _).trans (hb.mono (by simp))⟩
 go_enter Tryz.func131,Tryz.ntmps131
 go_wp2_with (go_at_call 116;refine (HC.out _ _ (by simp)).mono ?_;rintro e w' ⟨rfl,hb⟩)
 go_ret;exact ⟨ret_bool HK.out,hb⟩
theorem zm6 (o:Ob) (s:ByteArray) (x1:OA) (n1 y1:Nat) (d:Int) (x3:OA) (y3:Nat) (x4:OA) (n4 y4:Nat) (x5:OA) (n5 y5:Nat) (m x:Int) (w:World) (hb:o.code.length<=17592186044416) :
 qc 132 #[.agg #[.string s,.slice x1 n1 y1,qi d,.slice x3 o.code.length y3,.slice x4 n4 y4,.slice x5 n5 y5,qi m],qi x] w fun e w'=>e = .returned (.bool (zdi o x))/\qb w w':=by
 by_cases t:0<=x
 . have HR:Hid (zdi o x=decide (x<o.code.length)):=by show _=_;unfold zdi;exact decide_eq_decide.2 ⟨fun h=>h.2,fun h=>⟨t,h⟩⟩
   go_enter Tryz.func132,Tryz.ntmps132;go_wp2_with fail;go_ret;exact ⟨ret_bool (by first | exact HR.out.symm | (rw [HR.out]<;>first | (simp;omega) | (simp [*];done))),al1 _ _⟩
 . have HR:Hid (zdi o x=false):=by show _=_;unfold zdi;exact decide_eq_false (fun h=>t h.1)
   have t':x<0:=by omega
   clear t;go_enter Tryz.func132,Tryz.ntmps132;go_wp2_with fail;go_ret;exact ⟨ret_bool (by first | exact HR.out.symm | (rw [HR.out]<;>first | (simp;omega) | (simp [*];done))),al1 _ _⟩
theorem zyl (o:Ob) (s:ByteArray) (x1:OA) (y1:Nat) (d:Int) (x3:OA) (y3:Nat) (x4:OA) (n4 y4:Nat) (x5:OA) (y5:Nat) (m:Int) (w:World) (h1:o.uses.length<=17592186044416) (h3:o.code.length<=17592186044416) (h5:o.entries.length<=17592186044416) :
 qc 81 #[.agg #[.string s,.slice x1 o.uses.length y1,qi d,.slice x3 o.code.length y3,.slice x4 n4 y4,.slice x5 o.entries.length y5,qi m]] w fun e w'=>e = .returned (.bool (zhu o))/\qb w w':=by
 have HR:Hid (zhu o=(decide (3<o.uses.length)||(decide (6<o.entries.length)||(decide (o.code.length<1)||decide (2048<o.code.length))))):=rfl
 by_cases t1:3<o.uses.length
 . have HT:Hid (zhu o=true):=by show _=_;rw [HR.out,decide_eq_true t1];rfl
   have DJ:(3:Int)<o.uses.length:=by omega
   go_enter Tryz.func81,Tryz.ntmps81;go_wp2_with fail;go_ret;exact ⟨ret_bool (by first | exact HT.out.symm | (rw [HT.out]<;>first | (simp;omega) | (simp [*];done))),al1 _ _⟩
 by_cases t2:6<o.entries.length
 . have HT:Hid (zhu o=true):=by show _=_;rw [HR.out,decide_eq_true t2,decide_eq_false t1];rfl
   have DJ:¬ (3:Int)<o.uses.length:=by omega
   have Em:(6:Int)<o.entries.length:=by omega
   go_enter Tryz.func81,Tryz.ntmps81;go_wp2_with fail;go_ret;exact ⟨ret_bool (by first | exact HT.out.symm | (rw [HT.out]<;>first | (simp;omega) | (simp [*];done))),al1 _ _⟩
 have DJ:¬ (3:Int)<o.uses.length:=by omega
 have Em:¬ (6:Int)<o.entries.length:=by omega
 by_cases t3:o.code.length<1
 . have HT:Hid (zhu o=true):=by show _=_;rw [HR.out,decide_eq_true t3,decide_eq_false t1,decide_eq_false t2];rfl
   have Ks:(o.code.length:Int)<1:=by omega
   clear t3;go_enter Tryz.func81,Tryz.ntmps81;go_wp2_with fail;go_ret;exact ⟨ret_bool (by first | exact HT.out.symm | (rw [HT.out]<;>first | (simp;omega) | (simp [*];done))),al1 _ _⟩
 . have HT:Hid (zhu o=decide (2048<o.code.length)):=by show _=_;rw [HR.out,decide_eq_false t3,decide_eq_false t1,decide_eq_false t2];rfl
   have Ks:¬ (o.code.length:Int)<1:=by omega
   clear t3;go_enter Tryz.func81,Tryz.ntmps81;go_wp2_with fail;go_ret;exact ⟨ret_bool (by first | exact HT.out.symm | (rw [HT.out]<;>first | (simp;omega) | (simp [*];done))),al1 _ _⟩
abbrev oC (o:Ob) (a:OA) (b:Nat) (c:OA) (e:Nat) (f:OA) (g:Nat) (h:OA) (i:Nat):Obj:=kzD o.name a o.uses.length b o.data c o.code.length e f o.fixes.length g h o.entries.length i o.main
structure GiAt (w:World) (b o:Nat) (x:Gi):Prop where
 lt:b<w.heap.size
 c0:w.cell? (qa b o)=some (qi x.op)
 c1:w.cell? ⟨b,o+1,none⟩=some (qi x.a)
 c2:w.cell? ⟨b,o+2,none⟩=some (qi x.b)
 w0:(Lit.int .i64 x.op).wf=true
 w1:(Lit.int .i64 x.a).wf=true
 w2:(Lit.int .i64 x.b).wf=true
theorem DAt.gi {w:World} {A:Nat->Prop} {a:OA} {l:List Gi} (h:DAt w A a l.length (zv5 l)) (i:Nat) (hi:i<l.length):∃ b off,a=some (qa b off)/\GiAt w b (off+i*3) l[i]:=by
 obtain ⟨b,off,ha,hb,hc⟩:=h.cell (by omega);generalize hx:l[i]=x;obtain ⟨op,a',b'⟩:=x
 have g:∀ j d,j<3->(Gi.mk op a' b').ds[j]? = some d->∃ v,w.cell? ⟨b,off+i*3+j,none⟩=some v/\zc7 w A d v:=fun j d hj hd=>by
  rw [vbj];exact hc (i*3+j) d ((zck Gi.ds 3 (fun _=>rfl) l i hi j hj).trans (by rw [hx];exact hd))
 obtain ⟨v0,q0,d0⟩:=g 0 (.int op) (by omega) (by simp [Gi.ds]);obtain ⟨v1,q1,d1⟩:=g 1 (.int a') (by omega) (by simp [Gi.ds]);obtain ⟨v2,q2,d2⟩:=g 2 (.int b') (by omega) (by simp [Gi.ds]);obtain ⟨rfl,w0⟩:=za3 d0;obtain ⟨rfl,w1⟩:=za3 d1;obtain ⟨rfl,w2⟩:=za3 d2;exact ⟨b,off,ha,hb,q0,q1,q2,w0,w1,w2⟩
structure GfAt (w:World) (b o:Nat) (x:Gf):Prop where
 lt:b<w.heap.size
 c0:w.cell? (qa b o)=some (qi x.at_)
 c1:w.cell? ⟨b,o+1,none⟩=some (qi x.kind)
 c2:w.cell? ⟨b,o+2,none⟩=some (qi x.m)
 w0:(Lit.int .i64 x.at_).wf=true
 w1:(Lit.int .i64 x.kind).wf=true
 w2:(Lit.int .i64 x.m).wf=true
theorem DAt.gf {w:World} {A:Nat->Prop} {a:OA} {l:List Gf} (h:DAt w A a l.length (z1u l)) (i:Nat) (hi:i<l.length):∃ b off,a=some (qa b off)/\GfAt w b (off+i*3) l[i]:=by
 obtain ⟨b,off,ha,hb,hc⟩:=h.cell (by omega);generalize hx:l[i]=x;obtain ⟨op,a',b'⟩:=x
 have g:∀ j d,j<3->(Gf.mk op a' b').ds[j]? = some d->∃ v,w.cell? ⟨b,off+i*3+j,none⟩=some v/\zc7 w A d v:=fun j d hj hd=>by
  rw [vbj];exact hc (i*3+j) d ((zck Gf.ds 3 (fun _=>rfl) l i hi j hj).trans (by rw [hx];exact hd))
 obtain ⟨v0,q0,d0⟩:=g 0 (.int op) (by omega) (by simp [Gf.ds]);obtain ⟨v1,q1,d1⟩:=g 1 (.int a') (by omega) (by simp [Gf.ds]);obtain ⟨v2,q2,d2⟩:=g 2 (.int b') (by omega) (by simp [Gf.ds]);obtain ⟨rfl,w0⟩:=za3 d0;obtain ⟨rfl,w1⟩:=za3 d1;obtain ⟨rfl,w2⟩:=za3 d2;exact ⟨b,off,ha,hb,q0,q1,q2,w0,w1,w2⟩
theorem DAt.num {w:World} {A:Nat->Prop} {a:OA} {l:List Int} (h:DAt w A a l.length (zfy l)) (i:Nat) (hi:i<l.length):∃ b off,a=some (qa b off)/\b<w.heap.size/\w.cell? ⟨b,off+i,none⟩=some (qi l[i])/\(Lit.int .i64 l[i]).wf=true:=by
 obtain ⟨b,off,ha,hb,hc⟩:=h.cell (by omega);obtain ⟨v0,q0,d0⟩:=hc i (.int l[i]) (by simp [zfy,hi]);obtain ⟨rfl,w0⟩:=za3 d0;exact ⟨b,off,ha,hb,q0,w0⟩
def okF (a far m uses:Int):Bool:=decide (0<=a)&&(decide (a<=far)&&(decide (0<=m)&&decide (m<=uses)))
def aAt (o:Ob) (x:Int):Int:=match o.code[x.toNat]? with | some i=>i.a | none=>0
def z6q (o:Ob) (f:Gf):Bool:=
 if f.kind=1 then okF (aAt o f.at_) o.code.length f.m 0
 else if f.kind=2\/f.kind=3 then okF (aAt o f.at_) 2048 f.m o.uses.length
 else false
def zfw (n:Nat) (q:Nat->Bool):Bool:=(List.range n).all q
theorem zba {n:Nat} {q:Nat->Bool}:zfw n q=true↔∀ i,i<n->q i=true:=by simp [zfw]
theorem zb5 {n:Nat} {q:Nat->Bool} {i:Nat} (h:i<n) (hq:q i=false):zfw n q=false:=by
 cases e:zfw n q with
 | false=>rfl
 | true=>rw [zba.1 e i h] at hq;cases hq
theorem zej {q:Nat->Bool} {j:Nat} (h:∀ k,k<j->q k=true) (hq:q j=true):∀ k,k<j+1->q k=true:=fun k hk=>by
 rcases vbg k j with h1 | h1
 . exact h k h1
 . obtain rfl:k=j:=by omega
   exact hq
theorem zym (a b:ByteArray):(a.toList == b.toList)=decide (a=b):=by
 rw [vcj];simp only [beq_iff_eq,decide_eq_true_eq]
 constructor
 . intro h
   rw [vax,vax] at h;exact zli h
 . rintro rfl;rfl
def opB (i:Gi):Bool:=decide (1<=i.op/\i.op<=22)
def z6r (o:Ob) (j:Nat):Bool:=match o.code[j]? with | some i=>opB i | none=>true
def zsm (o:Ob) (j:Nat):Bool:=match o.entries[j]? with | some x=>zdi o x | none=>true
def zyn (o:Ob):Bool:=zdi o o.main&&decide (0<=o.data/\o.data<=512)
def zfj (o:Ob):Bool:=zfw o.code.length (z6r o)&&(zfw o.entries.length (zsm o)&&zyn o)
def zol (o:Ob) (i:Nat):Bool:=match o.uses[i]? with | some x=>Lx.zby x.data.toList&&(!decide (x=o.name) && !Go.Lib.containsS (o.uses.take i) x) | none=>true
def zf5 (o:Ob):Bool:=Lx.zby o.name.data.toList&&zfw o.uses.length (zol o)
def lastAt (o:Ob):Nat->Int
 | 0=>-1
 | j+1=>match o.fixes[j]? with | some f=>f.at_ | none=>-1
def zom (o:Ob) (j:Nat):Bool:=match o.fixes[j]? with | some f=>decide (lastAt o j<f.at_)&&(zdi o f.at_&&z6q o f) | none=>true
def zgy (o:Ob):Bool:=zfw o.fixes.length (zom o)
def oChk (o:Ob):Int:=if zhu o=true then 2 else if (zf5 o&&(zfj o&&zgy o))=true then 0 else 1
set_option maxHeartbeats 3200000
theorem zuk (o:Ob):zfj o=(zfw o.code.length (z6r o)&&(zfw o.entries.length (zsm o)&&zyn o)):=rfl
theorem zon (o:Ob) (x1:OA) (y1:Nat) (x3:OA) (y3:Nat) (x4:OA) (y4:Nat) (x5:OA) (y5:Nat) (w:World) (hO:OvAt w o x1 x3 x4 x5) :
 qc 83 #[.agg #[.string o.name,.slice x1 o.uses.length y1,qi o.data,.slice x3 o.code.length y3,.slice x4 o.fixes.length y4,.slice x5 o.entries.length y5,qi o.main]] w fun e w'=>e = .returned (.bool (zfj o))/\qb w w':=by
 have A9:=hO.code.bound;have As:=hO.entries.bound;have HO:=hid hO;have HP:=hid (fun (x:Int) (W:World)=>zm6 o o.name x1 o.uses.length y1 o.data x3 y3 x4 o.fixes.length y4 x5 o.entries.length y5 o.main x W A9);clear hO;go_enter Tryz.func83,Tryz.ntmps83;go_wp2_with fail
 go_loopw [10] (fun i wr=>∃ j:Nat,j<=o.code.length/\i=qi j/\(∀ k,k<j->z6r o k=true)/\qb w wr/\wr.heap[w.heap.size]? = some (oC o x1 y1 x3 y3 x4 y4 x5 y5)) (fun i _=>o.code.length - (intOf i).toNat)
 case atStart=>exact ⟨0,vag _,rfl,fun k hk=>absurd hk (vck k),al1 _ _,heap_newP w (oC o x1 y1 x3 y3 x4 y4 x5 y5)⟩
 case round=>
  obtain ⟨j,hj,rfl,A8,hb,hB⟩:=hrel;obtain ⟨q0,q1,q2,q3,q4,q5,q6,_⟩:=zao hB;have qz:=lt_of_heap hB;have HB:=hid hb;have HX:=hid hB;have HL:=hid A8;clear A8 hB hb
  by_cases A4:j<o.code.length
  . obtain ⟨b,off,rfl,hx⟩:=(HO.out.later HB.out).code.gi j A4
    have HE:Hid (z6r o j=opB o.code[j]):=by show _=_;unfold z6r;rw [vae A4]
    have HF:=hid (fun (h:opB o.code[j]=false)=>(by rw [zuk,zb5 A4 (HE.out.trans h)];rfl:zfj o=false));have HT:=hid (fun (h:opB o.code[j]=true)=>zej HL.out (HE.out.trans h));obtain ⟨Au,p0,p1,p2,_,_,_⟩:=hx;generalize o.code[j]=p at *
    by_cases t1:p.op<1
    . have Bc:=hid (HF.out (by unfold opB;exact decide_eq_false (by omega)))
      go_wp2_with fail;go_ret;exact ⟨ret_bool (by first | exact Bc.out.symm | (rw [Bc.out]<;>first | (simp;omega) | (simp [*];done))),thenB HB.out (al1 _ _)⟩
    by_cases t2:22<p.op
    . have Bc:=hid (HF.out (by unfold opB;exact decide_eq_false (by omega)))
      have DJ:1<=p.op:=by omega
      clear t1;go_wp2_with fail;go_ret;exact ⟨ret_bool (by first | exact Bc.out.symm | (rw [Bc.out]<;>first | (simp;omega) | (simp [*];done))),thenB HB.out (al1 _ _)⟩
    have B6:=hid (HT.out (by unfold opB;exact decide_eq_true (by omega)))
    have DJ:1<=p.op:=by omega
    have Em:p.op<=22:=by omega
    clear t1 t2;go_wp2_with fail;go_roundw
    case rel=>exact ⟨j+1,by omega,by go_num,B6.out,thenB HB.out (al1 _ _),zab HX.out⟩
    case measure=>simp [intOf];omega
  . obtain rfl:j=o.code.length:=by omega
    have HC:Hid (zfj o=(zfw o.entries.length (zsm o)&&zyn o)):=by show _=_;rw [zuk,zba.2 HL.out];rfl
    go_wp2_with fail
    go_loopw [26] (fun i wr=>∃ j:Nat,j<=o.entries.length/\i=qi j/\(∀ k,k<j->zsm o k=true)/\qb w wr/\wr.heap[w.heap.size]? = some (oC o x1 y1 x3 y3 x4 y4 x5 y5)) (fun i _=>o.entries.length - (intOf i).toNat)
    case atStart=>exact ⟨0,vag _,rfl,fun k hk=>absurd hk (vck k),HB.out,HX.out⟩
    case round=>
     clear q0 q1 q2 q3 q4 q5 q6 qz;obtain ⟨j,hj,rfl,A8,hb,hB⟩:=hrel;obtain ⟨q0,q1,q2,q3,q4,q5,q6,_⟩:=zao hB;have qz:=lt_of_heap hB;have HB:=hid hb;have HX:=hid hB;have HL:=hid A8;clear A8 hB hb
     by_cases A4:j<o.entries.length
     . obtain ⟨b,off,rfl,Au,p0,_⟩:=(HO.out.later HB.out).entries.num j A4
       have HE:Hid (zsm o j=zdi o o.entries[j]):=by show _=_;unfold zsm;rw [vae A4]
       have HF:=hid (fun (h:zdi o o.entries[j]=false)=>(by rw [HC.out,zb5 A4 (HE.out.trans h)];rfl:zfj o=false));have HT:=hid (fun (h:zdi o o.entries[j]=true)=>zej HL.out (HE.out.trans h));generalize o.entries[j]=p at *;go_wp2_with fail;refine (HP.out p _).mono ?_;rintro e w1 ⟨rfl,A6⟩;have A7:=hid (thenB HB.out A6);have AG:=hid ((A6.block _ qz).trans HX.out);clear q0 q1 q2 q3 q4 q5 q6 qz A6
       cases hp:zdi o p with
       | false=>
         have Bc:=hid (HF.out hp);go_wp2_with fail;go_ret;exact ⟨ret_bool (by first | exact Bc.out.symm | (rw [Bc.out]<;>first | (simp;omega) | (simp [*];done))),A7.out⟩
       | true=>
         have B6:=hid (HT.out hp);go_wp2_with fail;go_roundw
         case rel=>exact ⟨j+1,by omega,by go_num,B6.out,A7.out,AG.out⟩
         case measure=>simp [intOf];omega
     . obtain rfl:j=o.entries.length:=by omega
       have HD:Hid (zfj o=(zdi o o.main&&decide (0<=o.data/\o.data<=512))):=by show _=_;rw [HC.out,zba.2 HL.out];rfl
       go_wp2_with fail;refine (HP.out o.main _).mono ?_;rintro e w1 ⟨rfl,A6⟩;have A7:=hid (thenB HB.out A6);have AG:=hid ((A6.block _ qz).trans HX.out);clear q0 q1 q2 q3 q4 q5 q6 qz A6;obtain ⟨q0,q1,q2,q3,q4,q5,q6,_⟩:=zao AG.out;have qz:=lt_of_heap AG.out
       cases hp:zdi o o.main with
       | false=>
         have HR:Hid (zfj o=false):=by show _=_;rw [HD.out,hp];rfl
         go_wp2_with fail;go_ret;exact ⟨ret_bool HR.out.symm,A7.out⟩
       | true=>
         by_cases t1:0<=o.data
         . have HR:Hid (zfj o=decide (o.data<=512)):=by show _=_;rw [HD.out,hp,vdu];exact decide_eq_decide.2 ⟨fun h=>h.2,fun h=>⟨t1,h⟩⟩
           go_wp2_with fail;go_ret;exact ⟨ret_bool HR.out.symm,A7.out⟩
         . have HR:Hid (zfj o=false):=by show _=_;rw [HD.out,hp,vdu];exact decide_eq_false (fun h=>t1 h.1)
           have DJ:o.data<0:=by omega
           clear t1;go_wp2_with fail;go_ret;exact ⟨ret_bool HR.out.symm,A7.out⟩
theorem zql (o:Ob):zf5 o=(Lx.zby o.name.data.toList&&zfw o.uses.length (zol o)):=rfl
theorem zap.take {w:World} {lo:Nat->Prop}:∀ {l:List D} {cs:List Value},zap w lo l cs->∀ j,zap w lo (l.take j) (cs.take j)
 | [],cs,h,j=>by unfold zap at h;subst h;simp only [List.take_nil];exact zap.nil
 | d :: ds,cs,h,0=>by simp only [ved];exact zap.nil
 | d :: ds,cs,h,j+1=>by
   unfold zap at h;obtain ⟨v,r,rfl,h1,h2⟩:=h;exact zap.cons h1 (zap.take h2 j)
theorem zyo {w:World} {A:Nat->Prop} {a:OA} {l:List ByteArray} (h:DAt w A a l.length (zaj l)) (j:Nat):DAt w A a (l.take j).length (zaj (l.take j)):=by
 obtain ⟨h1,h2,h3⟩:=h
 have e:zaj (l.take j)=(zaj l).take j:=by simp [zaj,List.map_take]
 have hn:(zaj l).length=l.length:=by simp [zaj]
 refine ⟨by rw [e,vcc,vcc,hn];exact vaa _,by rw [e,vcc];omega,?_⟩
 rcases h3 with h4 | ⟨b,off,cs,ha,hl,hb,hc,hx⟩
 . exact Or.inl (by rw [vcc];omega)
 . exact Or.inr ⟨b,off,cs.take j,ha,hl,hb,fun k u hk=>hc k u (by rw [vdp] at hk;split at hk;exact hk;cases hk),by rw [e];exact hx.take j⟩
theorem zoo (o:Ob) (x1:OA) (y1:Nat) (x3:OA) (y3:Nat) (x4:OA) (y4:Nat) (x5:OA) (y5:Nat) (w:World) (hO:OvAt w o x1 x3 x4 x5) (h3:o.uses.length<=3) (DU:o.uses.length<=y1) :
 qc 82 #[.agg #[.string o.name,.slice x1 o.uses.length y1,qi o.data,.slice x3 o.code.length y3,.slice x4 o.fixes.length y4,.slice x5 o.entries.length y5,qi o.main]] w fun e w'=>e = .returned (.bool (zf5 o))/\qb w w':=by
 have HO:=hid hO;have HN:=hid (zqk o.name (w.alloc (oC o x1 y1 x3 y3 x4 y4 x5 y5)) hO.wn);clear hO;go_enter Tryz.func82,Tryz.ntmps82;go_wp2_with fail;refine HN.out.mono ?_;rintro e w1 ⟨rfl,A6⟩;have A7:=hid (thenB (al1 w _) A6);have AG:=hid ((A6.block _ (by simp)).trans (heap_newP w (oC o x1 y1 x3 y3 x4 y4 x5 y5)));clear A6
 cases hn:Lx.zby o.name.data.toList with
 | false=>
   have HR:Hid (zf5 o=false):=by show _=_;rw [zql,hn];rfl
   go_wp2_with fail;go_ret;exact ⟨ret_bool HR.out.symm,A7.out⟩
 | true=>
 have HC:Hid (zf5 o=zfw o.uses.length (zol o)):=by show _=_;rw [zql,hn];rfl
 clear hn;obtain ⟨q0,q1,q2,q3,q4,q5,q6,_⟩:=zao AG.out;have qz:=lt_of_heap AG.out;go_wp2_with fail
 go_loopw [12] (fun i wr=>∃ j:Nat,j<=o.uses.length/\i=qi j/\(∀ k,k<j->zol o k=true)/\qb w wr/\wr.heap[w.heap.size]? = some (oC o x1 y1 x3 y3 x4 y4 x5 y5)) (fun i _=>o.uses.length - (intOf i).toNat)
 case atStart=>exact ⟨0,vag _,rfl,fun k hk=>absurd hk (vck k),A7.out,AG.out⟩
 case round=>
  clear q0 q1 q2 q3 q4 q5 q6 qz;obtain ⟨j,hj,rfl,A8,hb,hB⟩:=hrel;obtain ⟨q0,q1,q2,q3,q4,q5,q6,_⟩:=zao hB;have qz:=lt_of_heap hB;have HB:=hid hb;have HX:=hid hB;have HL:=hid A8;clear A8 hB hb
  by_cases A4:j<o.uses.length
  . obtain ⟨b,off,rfl,Au,p0,hw⟩:=(HO.out.later HB.out).uses.str j A4
    have HE:Hid (zol o j=(Lx.zby o.uses[j].data.toList&&(!decide (o.uses[j]=o.name) && !Go.Lib.containsS (o.uses.take j) o.uses[j]))):=by show _=_;unfold zol;rw [vae A4]
    have HF:=hid (fun (h:zol o j=false)=>(by rw [HC.out,zb5 A4 h]:zf5 o=false));have HT:=hid (fun (h:zol o j=true)=>zej HL.out (h));have HU:=hid (fun (W:World) (hW:qb wr W) (y:Nat)=>(by have h:=zfs (o.uses.take j) o.uses[j] (some (qa b off)) y W (zyo ((HO.out.later HB.out).later hW).uses j);rw [vcc,vdl hj] at h;exact h:qc 76 #[.slice (some (qa b off)) j y,.string o.uses[j]] W fun e w'=>e = .returned (.bool (Go.Lib.containsS (o.uses.take j) o.uses[j]))/\w'=W))
    have SC:j<=y1:=by omega
    generalize o.uses[j]=x at *;go_wp2_with fail;refine (zqk x _ hw).mono ?_;rintro e w1 ⟨rfl,A6⟩;have A7:=hid (thenB HB.out A6);have AG:=hid ((A6.block _ qz).trans HX.out);have HV:=hid (HU.out w1 A6);clear q0 q1 q2 q3 q4 q5 q6 qz A6 p0 Au;obtain ⟨q0,q1,q2,q3,q4,q5,q6,_⟩:=zao AG.out;have qz:=lt_of_heap AG.out
    cases hn:Lx.zby x.data.toList with
    | false=>
      have HR:=hid (HF.out (by rw [HE.out,hn];rfl));go_wp2_with fail;go_ret;exact ⟨ret_bool HR.out.symm,A7.out⟩
    | true=>
      by_cases hx:x=o.name
      . have HR:=hid (HF.out (by rw [HE.out,hn,decide_eq_true hx];rfl))
        have Bx:(x.toList == o.name.toList)=true:=(zym _ _).trans (decide_eq_true hx);clear hx;go_wp2_with fail;go_ret;exact ⟨ret_bool HR.out.symm,A7.out⟩
      . have Bx:(x.toList == o.name.toList)=false:=(zym _ _).trans (decide_eq_false hx)
        have Py:Hid (zol o j = !Go.Lib.containsS (o.uses.take j) x):=by show _=_;rw [HE.out,hn,decide_eq_false hx];simp
        clear hx;go_wp2_with fail;refine (HV.out _).mono ?_;rintro e w2 ⟨rfl,rfl⟩
        cases hc:Go.Lib.containsS (o.uses.take j) x with
        | true=>
          have HR:=hid (HF.out (by rw [Py.out,hc];rfl));go_wp2_with fail;go_ret;exact ⟨ret_bool HR.out.symm,A7.out⟩
        | false=>
          have B6:=hid (HT.out (by rw [Py.out,hc];rfl));go_wp2_with fail;go_roundw
          case rel=>exact ⟨j+1,by omega,by go_num,B6.out,A7.out,AG.out⟩
          case measure=>simp [intOf];omega
  . obtain rfl:j=o.uses.length:=by omega
    have HR:Hid (zf5 o=true):=by show _=_;rw [HC.out,zba.2 HL.out]
    go_wp2_with fail;go_ret;exact ⟨ret_bool HR.out.symm,HB.out⟩
theorem z8y (o:Ob) (x1:OA) (y1:Nat) (x3:OA) (y3:Nat) (x4:OA) (y4:Nat) (x5:OA) (y5:Nat) (j:Nat) (m:Int) (w:World) (hj:j<o.code.length) (hC:DAt w Tt x3 o.code.length (zv5 o.code)) (hu:o.uses.length<=17592186044416) :
 qc 133 #[.agg #[.string o.name,.slice x1 o.uses.length y1,qi o.data,.slice x3 o.code.length y3,.slice x4 o.fixes.length y4,.slice x5 o.entries.length y5,qi o.main],.agg #[qi (j:Int),qi 1,qi m]] w fun e w'=>e = .returned (.bool (okF o.code[j].a (o.code.length:Int) m 0))/\qb w w':=by
 have BH:=hC.bound;obtain ⟨b,off,rfl,hx⟩:=hC.gi j hj;obtain ⟨Au,_,z1,_,_,_,_⟩:=hx;generalize o.code[j].a=a at *;clear hC
 by_cases t0:0<=a
 case neg=>
  have HR:Hid (okF a (o.code.length:Int) m 0=false):=by show _=_;simp [okF,t0]
  have n0:a<0:=by omega
  clear t0;go_enter Tryz.func133,Tryz.ntmps133;go_wp2_with fail
  go_region
  go_wp2_with fail;go_ret;exact ⟨ret_bool HR.out.symm,(by first | exact bl2 _ _ _ | exact (bl2 _ _ _).drew | exact thenB (zbe _ _) (al1 _ _) | exact thenB (al1 _ _) (zbe _ _))⟩
 by_cases t1:a<=(o.code.length:Int)
 case neg=>
  have HR:Hid (okF a (o.code.length:Int) m 0=false):=by show _=_;simp [okF,t1]
  have n1:(o.code.length:Int)<a:=by omega
  clear t1;go_enter Tryz.func133,Tryz.ntmps133;go_wp2_with fail
  go_region
  go_wp2_with fail;go_ret;exact ⟨ret_bool HR.out.symm,(by first | exact bl2 _ _ _ | exact (bl2 _ _ _).drew | exact thenB (zbe _ _) (al1 _ _) | exact thenB (al1 _ _) (zbe _ _))⟩
 by_cases t2:0<=m
 case neg=>
  have HR:Hid (okF a (o.code.length:Int) m 0=false):=by show _=_;simp [okF,t2]
  have n2:m<0:=by omega
  clear t2;go_enter Tryz.func133,Tryz.ntmps133;go_wp2_with fail
  go_region
  go_wp2_with fail;go_ret;exact ⟨ret_bool HR.out.symm,(by first | exact bl2 _ _ _ | exact (bl2 _ _ _).drew | exact thenB (zbe _ _) (al1 _ _) | exact thenB (al1 _ _) (zbe _ _))⟩
 have HR:Hid (okF a (o.code.length:Int) m 0=decide (m<=0)):=by show _=_;simp [okF,t0,t1,t2]
 go_enter Tryz.func133,Tryz.ntmps133;go_wp2_with fail
 go_region
 go_wp2_with fail;go_ret;exact ⟨ret_bool HR.out.symm,(by first | exact bl2 _ _ _ | exact (bl2 _ _ _).drew | exact thenB (zbe _ _) (al1 _ _) | exact thenB (al1 _ _) (zbe _ _))⟩
theorem z8z (o:Ob) (x1:OA) (y1:Nat) (x3:OA) (y3:Nat) (x4:OA) (y4:Nat) (x5:OA) (y5:Nat) (j:Nat) (m:Int) (w:World) (hj:j<o.code.length) (hC:DAt w Tt x3 o.code.length (zv5 o.code)) (hu:o.uses.length<=17592186044416) :
 qc 133 #[.agg #[.string o.name,.slice x1 o.uses.length y1,qi o.data,.slice x3 o.code.length y3,.slice x4 o.fixes.length y4,.slice x5 o.entries.length y5,qi o.main],.agg #[qi (j:Int),qi 2,qi m]] w fun e w'=>e = .returned (.bool (okF o.code[j].a 2048 m (o.uses.length:Int)))/\qb w w':=by
 have BH:=hC.bound;obtain ⟨b,off,rfl,hx⟩:=hC.gi j hj;obtain ⟨Au,_,z1,_,_,_,_⟩:=hx;generalize o.code[j].a=a at *;clear hC
 by_cases t0:0<=a
 case neg=>
  have HR:Hid (okF a 2048 m (o.uses.length:Int)=false):=by show _=_;simp [okF,t0]
  have n0:a<0:=by omega
  clear t0;go_enter Tryz.func133,Tryz.ntmps133;go_wp2_with fail
  go_region
  go_wp2_with fail;go_ret;exact ⟨ret_bool HR.out.symm,(by first | exact bl2 _ _ _ | exact (bl2 _ _ _).drew | exact thenB (zbe _ _) (al1 _ _) | exact thenB (al1 _ _) (zbe _ _))⟩
 by_cases t1:a<=2048
 case neg=>
  have HR:Hid (okF a 2048 m (o.uses.length:Int)=false):=by show _=_;simp [okF,t1]
  have n1:2048<a:=by omega
  clear t1;go_enter Tryz.func133,Tryz.ntmps133;go_wp2_with fail
  go_region
  go_wp2_with fail;go_ret;exact ⟨ret_bool HR.out.symm,(by first | exact bl2 _ _ _ | exact (bl2 _ _ _).drew | exact thenB (zbe _ _) (al1 _ _) | exact thenB (al1 _ _) (zbe _ _))⟩
 by_cases t2:0<=m
 case neg=>
  have HR:Hid (okF a 2048 m (o.uses.length:Int)=false):=by show _=_;simp [okF,t2]
  have n2:m<0:=by omega
  clear t2;go_enter Tryz.func133,Tryz.ntmps133;go_wp2_with fail
  go_region
  go_wp2_with fail;go_ret;exact ⟨ret_bool HR.out.symm,(by first | exact bl2 _ _ _ | exact (bl2 _ _ _).drew | exact thenB (zbe _ _) (al1 _ _) | exact thenB (al1 _ _) (zbe _ _))⟩
 have HR:Hid (okF a 2048 m (o.uses.length:Int)=decide (m<=(o.uses.length:Int))):=by show _=_;simp [okF,t0,t1,t2]
 go_enter Tryz.func133,Tryz.ntmps133;go_wp2_with fail
 go_region
 go_wp2_with fail;go_ret;exact ⟨ret_bool HR.out.symm,(by first | exact bl2 _ _ _ | exact (bl2 _ _ _).drew | exact thenB (zbe _ _) (al1 _ _) | exact thenB (al1 _ _) (zbe _ _))⟩
theorem z80 (o:Ob) (x1:OA) (y1:Nat) (x3:OA) (y3:Nat) (x4:OA) (y4:Nat) (x5:OA) (y5:Nat) (j:Nat) (m:Int) (w:World) (hj:j<o.code.length) (hC:DAt w Tt x3 o.code.length (zv5 o.code)) (hu:o.uses.length<=17592186044416) :
 qc 133 #[.agg #[.string o.name,.slice x1 o.uses.length y1,qi o.data,.slice x3 o.code.length y3,.slice x4 o.fixes.length y4,.slice x5 o.entries.length y5,qi o.main],.agg #[qi (j:Int),qi 3,qi m]] w fun e w'=>e = .returned (.bool (okF o.code[j].a 2048 m (o.uses.length:Int)))/\qb w w':=by
 have BH:=hC.bound;obtain ⟨b,off,rfl,hx⟩:=hC.gi j hj;obtain ⟨Au,_,z1,_,_,_,_⟩:=hx;generalize o.code[j].a=a at *;clear hC
 by_cases t0:0<=a
 case neg=>
  have HR:Hid (okF a 2048 m (o.uses.length:Int)=false):=by show _=_;simp [okF,t0]
  have n0:a<0:=by omega
  clear t0;go_enter Tryz.func133,Tryz.ntmps133;go_wp2_with fail
  go_region
  go_wp2_with fail;go_ret;exact ⟨ret_bool HR.out.symm,(by first | exact bl2 _ _ _ | exact (bl2 _ _ _).drew | exact thenB (zbe _ _) (al1 _ _) | exact thenB (al1 _ _) (zbe _ _))⟩
 by_cases t1:a<=2048
 case neg=>
  have HR:Hid (okF a 2048 m (o.uses.length:Int)=false):=by show _=_;simp [okF,t1]
  have n1:2048<a:=by omega
  clear t1;go_enter Tryz.func133,Tryz.ntmps133;go_wp2_with fail
  go_region
  go_wp2_with fail;go_ret;exact ⟨ret_bool HR.out.symm,(by first | exact bl2 _ _ _ | exact (bl2 _ _ _).drew | exact thenB (zbe _ _) (al1 _ _) | exact thenB (al1 _ _) (zbe _ _))⟩
 by_cases t2:0<=m
 case neg=>
  have HR:Hid (okF a 2048 m (o.uses.length:Int)=false):=by show _=_;simp [okF,t2]
  have n2:m<0:=by omega
  clear t2;go_enter Tryz.func133,Tryz.ntmps133;go_wp2_with fail
  go_region
  go_wp2_with fail;go_ret;exact ⟨ret_bool HR.out.symm,(by first | exact bl2 _ _ _ | exact (bl2 _ _ _).drew | exact thenB (zbe _ _) (al1 _ _) | exact thenB (al1 _ _) (zbe _ _))⟩
 have HR:Hid (okF a 2048 m (o.uses.length:Int)=decide (m<=(o.uses.length:Int))):=by show _=_;simp [okF,t0,t1,t2]
 go_enter Tryz.func133,Tryz.ntmps133;go_wp2_with fail
 go_region
 go_wp2_with fail;go_ret;exact ⟨ret_bool HR.out.symm,(by first | exact bl2 _ _ _ | exact (bl2 _ _ _).drew | exact thenB (zbe _ _) (al1 _ _) | exact thenB (al1 _ _) (zbe _ _))⟩
theorem z81 (o:Ob) (x1:OA) (y1:Nat) (x3:OA) (y3:Nat) (x4:OA) (y4:Nat) (x5:OA) (y5:Nat) (at_ kind m:Int) (w:World) (h1:kind≠1) (h2:kind≠2) (h3:kind≠3) (hu:o.uses.length<=17592186044416) :
 qc 133 #[.agg #[.string o.name,.slice x1 o.uses.length y1,qi o.data,.slice x3 o.code.length y3,.slice x4 o.fixes.length y4,.slice x5 o.entries.length y5,qi o.main],.agg #[qi at_,qi kind,qi m]] w fun e w'=>e = .returned (.bool false)/\qb w w':=by
 go_enter Tryz.func133,Tryz.ntmps133;go_wp2_with fail
 go_region
 go_wp2_with fail;go_ret;exact ⟨rfl,(by first | exact bl2 _ _ _ | exact (bl2 _ _ _).drew | exact thenB (zbe _ _) (al1 _ _) | exact thenB (al1 _ _) (zbe _ _))⟩
theorem zqm (o:Ob) (x1:OA) (y1:Nat) (x3:OA) (y3:Nat) (x4:OA) (y4:Nat) (x5:OA) (y5:Nat) (f:Gf) (w:World) (hp:zdi o f.at_=true) (hC:DAt w Tt x3 o.code.length (zv5 o.code)) (hu:o.uses.length<=17592186044416) :
 qc 133 #[.agg #[.string o.name,.slice x1 o.uses.length y1,qi o.data,.slice x3 o.code.length y3,.slice x4 o.fixes.length y4,.slice x5 o.entries.length y5,qi o.main],.agg #[qi f.at_,qi f.kind,qi f.m]] w fun e w'=>e = .returned (.bool (z6q o f))/\qb w w':=by
 obtain ⟨at_,kind,m⟩:=f;have GJ:=of_decide_eq_true hp;simp only at GJ
 obtain ⟨j,rfl⟩:∃ j:Nat,at_=j:=⟨at_.toNat,by omega⟩
 have hj:j<o.code.length:=by omega
 have ha:aAt o (j:Int)=o.code[j].a:=by unfold aAt;rw [vbx,vae hj]
 unfold z6q;simp only [ha]
 by_cases e1:kind=1
 . subst e1;exact z8y o x1 y1 x3 y3 x4 y4 x5 y5 j m w hj hC hu
 by_cases e2:kind=2
 . subst e2;exact z8z o x1 y1 x3 y3 x4 y4 x5 y5 j m w hj hC hu
 by_cases e3:kind=3
 . subst e3;exact z80 o x1 y1 x3 y3 x4 y4 x5 y5 j m w hj hC hu
 . rw [if_neg e1,if_neg (by omega)]
   exact z81 o x1 y1 x3 y3 x4 y4 x5 y5 j kind m w e1 e2 e3 hu
theorem zqn (o:Ob):zgy o=zfw o.fixes.length (zom o):=rfl
theorem zop (o:Ob) (x1:OA) (y1:Nat) (x3:OA) (y3:Nat) (x4:OA) (y4:Nat) (x5:OA) (y5:Nat) (w:World) (hO:OvAt w o x1 x3 x4 x5) :
 qc 84 #[.agg #[.string o.name,.slice x1 o.uses.length y1,qi o.data,.slice x3 o.code.length y3,.slice x4 o.fixes.length y4,.slice x5 o.entries.length y5,qi o.main]] w fun e w'=>e = .returned (.bool (zgy o))/\qb w w':=by
 have Aj:=hO.fixes.bound;have HO:=hid hO;have HP:=hid (fun (x:Int) (W:World)=>zm6 o o.name x1 o.uses.length y1 o.data x3 y3 x4 o.fixes.length y4 x5 o.entries.length y5 o.main x W hO.code.bound);have HH:=hid (fun (f:Gf) (W:World) (hW:qb w W) (hp:zdi o f.at_=true)=>zqm o x1 y1 x3 y3 x4 y4 x5 y5 f W hp (hO.code.later hW) hO.uses.bound);clear hO;go_enter Tryz.func84,Tryz.ntmps84;go_wp2_with fail
 go_loopw [3,9] (fun v i wr=>∃ j:Nat,j<=o.fixes.length/\i=qi j/\v=qi (lastAt o j)/\(∀ k,k<j->zom o k=true)/\qb w wr/\wr.heap[w.heap.size]? = some (oC o x1 y1 x3 y3 x4 y4 x5 y5)) (fun _ i _=>o.fixes.length - (intOf i).toNat)
 case atStart=>exact ⟨0,vag _,rfl,rfl,fun k hk=>absurd hk (vck k),al1 _ _,heap_newP w (oC o x1 y1 x3 y3 x4 y4 x5 y5)⟩
 case round=>
  obtain ⟨j,hj,rfl,rfl,A8,hb,hB⟩:=hrel;obtain ⟨q0,q1,q2,q3,q4,q5,q6,_⟩:=zao hB;have qz:=lt_of_heap hB;have HB:=hid hb;have HX:=hid hB;have HL:=hid A8;clear A8 hB hb
  by_cases A4:j<o.fixes.length
  . obtain ⟨b,off,rfl,hx⟩:=(HO.out.later HB.out).fixes.gf j A4
    have HE:Hid (zom o j=(decide (lastAt o j<o.fixes[j].at_)&&(zdi o o.fixes[j].at_&&z6q o o.fixes[j]))):=by show _=_;unfold zom;rw [vae A4]
    have HS:Hid (lastAt o (j+1)=o.fixes[j].at_):=by show (match o.fixes[j]? with | some f=>f.at_ | none=>-1)=_;rw [vae A4]
    have HF:=hid (fun (h:zom o j=false)=>(by rw [zqn,zb5 A4 h]:zgy o=false));have HT:=hid (fun (h:zom o j=true)=>zej HL.out (h));obtain ⟨Au,p0,p1,p2,_,_,_⟩:=hx;generalize o.fixes[j]=f at *;generalize lastAt o j=la at *
    by_cases t1:la<f.at_
    . have D0:=hid (zab (o:=.cells #[qi f.at_,qi f.kind,qi f.m] 67) HX.out)
      have Rk:=hid (heap_newP wr (.cells #[qi f.at_,qi f.kind,qi f.m] 67));have Af:=hid (thenB HB.out (al1 wr (.cells #[qi f.at_,qi f.kind,qi f.m] 67)))
      have AA:wr.heap.size<(wr.alloc (.cells #[qi f.at_,qi f.kind,qi f.m] 67)).heap.size:=by simp
      have An:w.heap.size<(wr.alloc (.cells #[qi f.at_,qi f.kind,qi f.m] 67)).heap.size:=by simp;omega
      have Ri:=hid An;have Rh:=hid AA;clear An AA;go_wp2_with fail;refine (HP.out f.at_ _).mono ?_;rintro e w1 ⟨rfl,A6⟩;have A7:=hid (thenB Af.out A6);have AG:=hid ((A6.block _ Ri.out).trans D0.out);have MK:=hid ((A6.block _ Rh.out).trans Rk.out);clear q0 q1 q2 q3 q4 q5 q6 qz A6 p0 p1 p2 Au;obtain ⟨q0,q1,q2,q3,q4,q5,q6,_⟩:=zao AG.out;have qz:=lt_of_heap AG.out;obtain ⟨p0,p1,p2,_⟩:=zev MK.out;have pz:=lt_of_heap MK.out
      cases hp:zdi o f.at_ with
      | false=>
        have HR:=hid (HF.out (by rw [HE.out,hp];simp));go_wp2_with fail;go_ret;exact ⟨ret_bool HR.out.symm,A7.out⟩
      | true=>
        have HC:=hid (HH.out f w1 A7.out hp);go_wp2_with fail;refine HC.out.mono ?_;rintro e w2 ⟨rfl,Ab⟩;have Ae:=hid (thenB A7.out Ab);have Cm:=hid ((Ab.block _ qz).trans AG.out);have JG:=hid ((Ab.block _ pz).trans MK.out);clear q0 q1 q2 q3 q4 q5 q6 qz p0 p1 p2 pz Ab;obtain ⟨p0,p1,p2,_⟩:=zev JG.out;have pz:=lt_of_heap JG.out
        cases hf:z6q o f with
        | false=>
          have HR:=hid (HF.out (by rw [HE.out,hf];simp));go_wp2_with fail;go_ret;exact ⟨ret_bool HR.out.symm,Ae.out⟩
        | true=>
          have B6:=hid (HT.out (by rw [HE.out,hf,hp,decide_eq_true t1];rfl));go_wp2_with fail;go_roundw
          case rel=>exact ⟨j+1,by omega,by go_num,by rw [HS.out],B6.out,Ae.out,Cm.out⟩
          case measure=>simp [intOf];omega
    . have HR:=hid (HF.out (by rw [HE.out,decide_eq_false t1];rfl))
      have DJ:f.at_<=la:=by omega
      clear t1;go_wp2_with fail;go_ret;exact ⟨ret_bool HR.out.symm,thenB HB.out (al1 _ _)⟩
  . obtain rfl:j=o.fixes.length:=by omega
    have HR:Hid (zgy o=true):=by show _=_;rw [zqn,zba.2 HL.out]
    go_wp2_with fail;go_ret;exact ⟨ret_bool HR.out.symm,HB.out⟩
set_option maxHeartbeats 1600000
theorem zqo (o:Ob) (x1:OA) (y1:Nat) (x3:OA) (y3:Nat) (x4:OA) (y4:Nat) (x5:OA) (y5:Nat) (w:World) (hO:OvAt w o x1 x3 x4 x5) (DU:o.uses.length<=y1) :
 qc 32 #[.agg #[.string o.name,.slice x1 o.uses.length y1,qi o.data,.slice x3 o.code.length y3,.slice x4 o.fixes.length y4,.slice x5 o.entries.length y5,qi o.main]] w fun e w'=>e = .returned (qi (oChk o))/\qb w w':=by
 have HQ:Hid (oChk o=if zhu o=true then 2 else if (zf5 o&&(zfj o&&zgy o))=true then 0 else 1):=rfl;have HM:=hid (zyl o o.name x1 y1 o.data x3 y3 x4 o.fixes.length y4 x5 y5 o.main (w.alloc (oC o x1 y1 x3 y3 x4 y4 x5 y5)) hO.uses.bound hO.code.bound hO.entries.bound);have HN:=hid (fun (W:World) (hW:qb w W) (h3:o.uses.length<=3)=>zoo o x1 y1 x3 y3 x4 y4 x5 y5 W (hO.later hW) h3 DU);have HC:=hid (fun (W:World) (hW:qb w W)=>zon o x1 y1 x3 y3 x4 y4 x5 y5 W (hO.later hW));have HF:=hid (fun (W:World) (hW:qb w W)=>zop o x1 y1 x3 y3 x4 y4 x5 y5 W (hO.later hW));clear hO;go_enter Tryz.func32,Tryz.ntmps32;go_wp2_with fail;refine HM.out.mono ?_;rintro e w1 ⟨rfl,A6⟩;have A7:=hid (thenB (al1 w _) A6);have AG:=hid ((A6.block _ (by simp)).trans (heap_newP w (oC o x1 y1 x3 y3 x4 y4 x5 y5)));clear A6
 obtain ⟨q0,q1,q2,q3,q4,q5,q6,_⟩:=zao AG.out;have qz:=lt_of_heap AG.out
 cases hm:zhu o with
 | true=>
   have HR:Hid (oChk o=2):=by show _=_;rw [HQ.out,hm];rfl
   go_wp2_with fail;go_ret;exact ⟨by rw [HR.out];first | done | rfl,A7.out⟩
 | false=>
 have h3:o.uses.length<=3:=by
  unfold zhu at hm;simp only [vat,decide_eq_false_iff_not] at hm;omega
 have HR:Hid (oChk o=if (zf5 o&&(zfj o&&zgy o))=true then 0 else 1):=by show _=_;rw [HQ.out,hm];rfl
 have JX:=hid (HN.out w1 A7.out h3);clear hm h3 HQ;go_wp2_with fail;refine JX.out.mono ?_;rintro e w2 ⟨rfl,Ab⟩;have Af:=hid (thenB A7.out Ab);have D0:=hid ((Ab.block _ qz).trans AG.out);have S4:=hid (HC.out w2 Af.out);clear Ab q0 q1 q2 q3 q4 q5 q6 qz;obtain ⟨q0,q1,q2,q3,q4,q5,q6,_⟩:=zao D0.out;have qz:=lt_of_heap D0.out
 cases hn:zf5 o with
 | false=>
   have Ba:Hid (oChk o=1):=by show _=_;rw [HR.out,hn];rfl
   go_wp2_with fail;go_ret;exact ⟨by rw [Ba.out];first | done | rfl,Af.out⟩
 | true=>
 have Ao:Hid (oChk o=if (zfj o&&zgy o)=true then 0 else 1):=by show _=_;rw [HR.out,hn];rfl
 go_wp2_with fail;refine S4.out.mono ?_;rintro e w3 ⟨rfl,A9⟩;have Ae:=hid (thenB Af.out A9);have Cm:=hid ((A9.block _ qz).trans D0.out);have Bc:=hid (HF.out w3 Ae.out);clear A9 q0 q1 q2 q3 q4 q5 q6 qz;obtain ⟨q0,q1,q2,q3,q4,q5,q6,_⟩:=zao Cm.out;have qz:=lt_of_heap Cm.out
 cases hc:zfj o with
 | false=>
   have Ba:Hid (oChk o=1):=by show _=_;rw [Ao.out,hc];rfl
   go_wp2_with fail;go_ret;exact ⟨by rw [Ba.out];first | done | rfl,Ae.out⟩
 | true=>
 go_wp2_with fail;refine Bc.out.mono ?_;rintro e w4 ⟨rfl,Aj⟩;have Ar:=hid (thenB Ae.out Aj);clear Aj q0 q1 q2 q3 q4 q5 q6 qz
 cases hf:zgy o with
 | false=>
   have Ba:Hid (oChk o=1):=by show _=_;rw [Ao.out,hc,hf];rfl
   go_wp2_with fail;go_ret;exact ⟨by rw [Ba.out];first | done | rfl,Ar.out⟩
 | true=>
   have Ba:Hid (oChk o=0):=by show _=_;rw [Ao.out,hc,hf];rfl
   go_wp2_with fail;go_ret;exact ⟨by rw [Ba.out];first | done | rfl,Ar.out⟩
end Go.Proofs.YtndkhgakfodldaaGreatDoor

namespace Go.Proofs.YtndkhgakfodldaaGreatDoor
set_option linter.unusedSimpArgs false
set_option linter.unusedVariables false
def inR (i:Gi) (n:Nat):Prop:=(1<=i.op/\i.op<=22)/\(0<=i.a/\i.a<=1099511627776+n)/\(0<=i.b/\i.b<=64)
theorem inR.mono {i:Gi} {n n':Nat} (h:inR i n) (hn:n<=n'):inR i n':=by unfold inR at *;omega
theorem zyp (op a b:Int) (h:(1<=op/\op<=22)/\(0<=a/\a<=1099511627776)/\(0<=b/\b<=64)):inR ⟨op,a,b⟩ 0:=by unfold inR;simp only;omega
def z7g (us:Int) (J:Nat->Prop) (lo hi k:Nat) (f:Gf) (a:Int):Prop:=
 (f.kind=1/\f.m=0/\(J k\/((lo:Int)<=a/\a<=hi)))\/((f.kind=2\/f.kind=3)/\¬ J k/\(0<=a/\a<=2048)/\(0<=f.m/\f.m<=us))
theorem z7g.mono {us:Int} {J J':Nat->Prop} {lo hi D4 k:Nat} {f:Gf} {a:Int} (h:z7g us J lo hi k f a) (hJ:J' k↔J k) (hh:hi<=D4):z7g us J' lo D4 k f a:=by
 rcases h with ⟨h1,h2,h3⟩ | ⟨h1,h2,h3⟩
 . refine Or.inl ⟨h1,h2,?_⟩
   rcases h3 with h3 | h3
   . exact Or.inl (hJ.2 h3)
   . exact Or.inr (by omega)
 . exact Or.inr ⟨h1,fun h=>h2 (hJ.1 h),h3⟩
structure Adds (us:Int) (J:Nat->Prop) (s t:Wrt):Prop where
 le:s.code.length<=t.code.length
 pre:∀ k,k<s.code.length->t.code[k]? = s.code[k]?
 ins:∀ (k:Nat) (i:Gi),s.code.length<=k->t.code[k]? = some i->inR i t.code.length
 jb:∀ k,J k->s.code.length<=k/\k<t.code.length
 fx:∃ e,t.fixes=s.fixes++e/\e.Pairwise (fun f g=>f.at_<g.at_)/\∀ f ∈ e,∃ (k:Nat) (i:Gi),t.code[k]? = some i/\f.at_=(k:Int)/\s.code.length<=k/\z7g us J s.code.length t.code.length k f i.a
theorem zd3 {α:Type} {l:List α} {k:Nat} {x:α} (h:l[k]? = some x):k<l.length:=by
 rcases vbg k l.length with h1 | h1
 . exact h1
 . rw [vbq h1] at h;cases h
section
variable {us:Int} {J J':Nat->Prop} {s t u:Wrt}
theorem Adds.cong (h:Adds us J s t) (hJ:∀ k,J' k↔J k):Adds us J' s t:=by
 obtain rfl:J'=J:=funext fun k=>propext (hJ k)
 exact h
theorem Adds.refl (s:Wrt):Adds us (fun _=>False) s s:=
 ⟨vaa _,fun _ _=>rfl,fun k i h1 h2=>by have:=zd3 h2;omega,fun _ h=>h.elim,[],by simp,List.Pairwise.nil,fun f hf=>by cases hf⟩
theorem Adds.snoc (h:Adds us J s t) (i:Gi) (hi:inR i 0\/inR i (t.code.length+1)) (hJ:∀ k,k<t.code.length->(J' k↔J k)) (QW:∀ k,J' k->s.code.length<=k/\k<=t.code.length) (e':List Gf)
 (FP:e'=[]\/∃ f,e'=[f]/\f.at_=(t.code.length:Int)/\z7g us J' s.code.length (t.code.length+1) t.code.length f i.a):Adds us J' s ⟨t.code++[i],t.fixes++e'⟩:=by
 obtain ⟨e,he,hp,hf⟩:=h.fx;have hl:=h.le
 have Ah:(t.code++[i]).length=t.code.length+1:=by simp
 have old:∀ k,k<t.code.length->(t.code++[i])[k]? = t.code[k]?:=fun k hk=>vbb hk
 have new:(t.code++[i])[t.code.length]? = some i:=by simp
 have D4:inR i (t.code.length+1):=by rcases hi with h1 | h1;exact h1.mono (vag _);exact h1
 refine ⟨by simp only [Ah];omega,fun k hk=>(old k (by omega)).trans (h.pre k hk),fun k x hk hx=>?_,fun k hk=>by have:=QW k hk;simp only [Ah];omega,e++e',by simp only [he,vdc],?_,fun f ER=>?_⟩
 . simp only [Ah]
   have Bx:=zd3 hx;rw [Ah] at Bx
   rcases vbg k t.code.length with h1 | h1
   . exact (h.ins k x hk ((old k h1).symm.trans hx)).mono (by omega)
   . obtain rfl:k=t.code.length:=by omega
     obtain rfl:i=x:=by rw [new] at hx;exact vab hx
     exact D4
 . refine List.pairwise_append.2 ⟨hp,?_,fun f ER g hg=>?_⟩
   . rcases FP with rfl | ⟨f,rfl,_⟩
     . exact List.Pairwise.nil
     . exact List.pairwise_singleton ..
   . obtain ⟨k,x,hx,hk,_⟩:=hf f ER
     have:=zd3 hx
     rcases FP with rfl | ⟨f',rfl,ha,_⟩
     . cases hg
     . rw [vcg] at hg;subst hg;omega
 . rcases vbs.1 ER with h1 | h1
   . obtain ⟨k,x,hx,hk,hs,hr⟩:=hf f h1
     have Iu:=zd3 hx;exact ⟨k,x,(old k Iu).trans hx,hk,hs,hr.mono (hJ k Iu) (by simp only [Ah];omega)⟩
   . rcases FP with rfl | ⟨f',rfl,ha,hr⟩
     . cases h1
     . rw [vcg] at h1;subst h1
       exact ⟨t.code.length,i,new,ha,hl,by simp only [Ah];exact hr⟩
theorem Adds.put (h:Adds us J s t) (op a b:Int) (hi:(1<=op/\op<=22)/\(0<=a/\a<=1099511627776)/\(0<=b/\b<=64)):Adds us J s (zbq op a b t):=by
 have:=h.snoc (J':=J) ⟨op,a,b⟩ (Or.inl (zyp _ _ _ hi)) (fun _ _=>Iff.rfl) (fun k hk=>by have:=h.jb k hk;omega) [] (Or.inl rfl);rw [vcl] at this;exact this
theorem Adds.fix (h:Adds us J s t) (kind m op a b:Int) (hk:kind=2\/kind=3) (hi:(1<=op/\op<=22)/\(0<=a/\a<=2048)/\(0<=b/\b<=64)) (hm:0<=m/\m<=us):Adds us J s (ztu kind m ⟨op,a,b⟩ t):=
 h.snoc (J':=J) ⟨op,a,b⟩ (Or.inl (zyp _ _ _ (by omega))) (fun _ _=>Iff.rfl) (fun k hk=>by have:=h.jb k hk;omega) [⟨t.code.length,kind,m⟩]
  (Or.inr ⟨_,rfl,rfl,Or.inr ⟨hk,fun hj=>by have:=(h.jb _ hj).2;omega,hi.2.1,hm⟩⟩)
theorem Adds.jump (h:Adds us J s t) (op:Int) (ho:1<=op/\op<=22):Adds us (fun x=>J x\/x=t.code.length) s (zcs op 0 t):=
 h.snoc ⟨op,0,0⟩ (Or.inl (zyp _ _ _ (by omega))) (fun k hk=>⟨fun h=>h.elim id (fun e=>by omega),Or.inl⟩) (fun k hk=>by rcases hk with hk | rfl;have:=h.jb k hk;omega;exact ⟨h.le,vaa _⟩) [⟨t.code.length,1,0⟩]
  (Or.inr ⟨_,rfl,rfl,Or.inl ⟨rfl,rfl,Or.inl (Or.inr rfl)⟩⟩)
theorem Adds.back (h:Adds us J s t) (op:Int) (ho:1<=op/\op<=22):Adds us J s (zcs op s.code.length t):=
 have hl:=h.le
 h.snoc (J':=J) ⟨op,s.code.length,0⟩ (Or.inr (by unfold inR;simp only;omega)) (fun _ _=>Iff.rfl) (fun k hk=>by have:=h.jb k hk;omega) [⟨t.code.length,1,0⟩]
  (Or.inr ⟨_,rfl,rfl,Or.inl ⟨rfl,rfl,Or.inr (by simp only;omega)⟩⟩)
theorem zsn (t:Wrt) {j k:Nat} (h:j≠k):(zcd k t).code[j]? = t.code[j]?:=by
 simp only [zcd,vdg];rw [show (fun a=>if k=j then zxd (t.code.length:Int) a else a)=id from funext fun a=>if_neg (fun e=>h e.symm)];simp
theorem zyq (t:Wrt) {k:Nat} {i:Gi} (h:t.code[k]? = some i):(zcd k t).code[k]? = some (zxd t.code.length i):=by
 simp only [zcd,vdg,h];simp
theorem Adds.land (h:Adds us J s t) {k:Nat} (hk:J k):Adds us (fun x=>J x/\x≠k) s (zcd k t):=by
 obtain ⟨e,he,hp,hf⟩:=h.fx;have hl:=h.le;have DO:=h.jb k hk;refine ⟨by rw [zae];exact hl,fun j hj=>(zsn t (by omega)).trans (h.pre j hj),fun j i hj hi=>?_,fun j hj=>by rw [zae];exact h.jb j hj.1,e,he,hp,fun f ER=>?_⟩
 . rw [zae]
   by_cases e:j=k
   . subst e
     have hg:t.code[j]? = some t.code[j]:=vae DO.2;rw [zyq t hg] at hi;obtain rfl:=vab hi;have:=h.ins j _ hj hg;unfold inR at this ⊢;simp only [zxd];omega
   . rw [zsn t e] at hi;exact h.ins j i hj hi
 . obtain ⟨j,i,hi,ha,hs,hr⟩:=hf f ER
   rw [zae]
   by_cases e:j=k
   . subst e
     refine ⟨j,_,zyq t hi,ha,hs,?_⟩
     rcases hr with ⟨h1,h2,_⟩ | ⟨_,h2,_⟩
     . exact Or.inl ⟨h1,h2,Or.inr (by simp only [zxd];omega)⟩
     . exact absurd hk h2
   . exact ⟨j,i,(zsn t e).trans hi,ha,hs,hr.mono ⟨fun h=>h.1,fun h=>⟨h,e⟩⟩ (vaa _)⟩
theorem Adds.then (h:Adds us J s t) (g:Adds us (fun _=>False) t u):Adds us J s u:=by
 obtain ⟨e,he,hp,hf⟩:=h.fx;obtain ⟨e',FP,GJ,KF⟩:=g.fx;have hl:=h.le;have gl:=g.le;refine ⟨by omega,fun k hk=>(g.pre k (by omega)).trans (h.pre k hk),fun k i hk hi=>?_,fun k hk=>by have:=h.jb k hk;omega,e++e',by rw [FP,he,vdc],?_,fun f ER=>?_⟩
 . rcases vbg k t.code.length with h1 | h1
   . exact (h.ins k i hk ((g.pre k h1).symm.trans hi)).mono gl
   . exact g.ins k i h1 hi
 . refine List.pairwise_append.2 ⟨hp,GJ,fun f ER x hx=>?_⟩
   obtain ⟨k,i,hi,ha,_⟩:=hf f ER;obtain ⟨k',i',D4,CZ,EF,_⟩:=KF x hx;have:=zd3 hi;omega
 . rcases vbs.1 ER with h1 | h1
   . obtain ⟨k,i,hi,ha,hs,hr⟩:=hf f h1
     exact ⟨k,i,(g.pre k (zd3 hi)).trans hi,ha,hs,hr.mono Iff.rfl gl⟩
   . obtain ⟨k,i,hi,ha,hs,hr⟩:=KF f h1
     refine ⟨k,i,hi,ha,by omega,?_⟩
     rcases hr with ⟨h1,h2,h3⟩ | ⟨h1,h2,h3⟩
     . exact Or.inl ⟨h1,h2,Or.inr (by rcases h3 with h3 | h3;exact h3.elim;omega)⟩
     . exact Or.inr ⟨h1,fun hj=>by have:=(h.jb k hj).2;omega,h3⟩
end
def zdk (us:Int) (f:Wrt->Wrt):Prop:=∀ s,Adds us (fun _=>False) s (f s)
theorem zjw {us:Int} {f:Nd->Wrt->Wrt}:∀ {l:List Nd},(∀ y ∈ l,zdk us (f y))->zdk us (zgu f l)
 | [],_,s=>Adds.refl s
 | x :: r,h,s=>(h x (var ..) s).then (zjw (fun y hy=>h y (vai _ hy)) (f x s))
theorem zjx {us:Int} {f:Ac->Wrt->Wrt}:∀ {l:List Ac},(∀ y ∈ l,zdk us (f y))->zdk us (zdh f l)
 | [],_,s=>Adds.refl s
 | x :: r,h,s=>by
   show Adds us _ s (zdh f r (if zhh s=true then s else f x s));have h2:=zjx (l:=r) (fun y hy=>h y (vai _ hy));split
   . exact h2 s
   . exact (h x (var ..) s).then (h2 _)
theorem z1v {us:Int} {f g:Wrt->Wrt} (hf:zdk us f) (hg:zdk us g):zdk us (z0j f g):=fun s=>by
 have h3:=((hf s).jump 12 (by decide)).then (hg _);have hl:=(hg (zcs 12 0 (f s))).le;rw [zak] at hl;have h5:=(h3.put 22 0 0 (by decide)).jump 11 (by decide);have h7:=(h5.land (k:=(f s).code.length) (Or.inl (Or.inr rfl))).put 1 0 0 (by decide);have h8:=h7.land (k:=(zbq 22 0 0 (g (zcs 12 0 (f s)))).code.length) ⟨Or.inr rfl,by rw [zac];omega⟩;exact h8.cong (fun k=>⟨False.elim,fun h=>by simp only [false_or] at h;omega⟩)
theorem z5a {us:Int} {f g:Wrt->Wrt} (hf:zdk us f) (hg:zdk us g):zdk us (orW f g):=fun s=>by
 have h5:=(((hf s).jump 12 (by decide)).put 1 1 0 (by decide)).jump 11 (by decide);have h6:=h5.land (k:=(f s).code.length) (Or.inl (Or.inr rfl));have h7:=(h6.then (hg _)).put 22 0 0 (by decide);have h8:=h7.land (k:=(zbq 1 1 0 (zcs 12 0 (f s))).code.length) ⟨Or.inr rfl,by rw [zac,zak];omega⟩;exact h8.cong (fun k=>⟨False.elim,fun h=>by simp only [false_or] at h;omega⟩)
theorem z5b {us:Int} {f g h:Wrt->Wrt} (hf:zdk us f) (hg:zdk us g) (hh:zdk us h) (e:Bool):zdk us (brW f g h e):=fun s=>by
 have h3:=((hf s).jump 12 (by decide)).then (hg _);have hl:=(hg (zcs 12 0 (f s))).le;rw [zak] at hl;unfold brW;simp only;split
 . exact (h3.land (k:=(f s).code.length) (Or.inr rfl)).cong (fun k=>⟨False.elim,fun h=>by simp only [false_or] at h;omega⟩)
 . have h5:=(h3.jump 11 (by decide)).land (k:=(f s).code.length) (Or.inl (Or.inr rfl))
   have h8:=(h5.then (hh _)).land (k:=(g (zcs 12 0 (f s))).code.length) ⟨Or.inr rfl,by omega⟩;exact h8.cong (fun k=>⟨False.elim,fun h=>by simp only [false_or] at h;omega⟩)
theorem z5c {us:Int} {f g:Wrt->Wrt} (hf:zdk us f) (hg:zdk us g):zdk us (whW f g):=fun s=>by
 have h3:=((((hf s).jump 12 (by decide)).put 16 0 0 (by decide)).then (hg _)).back 11 (by decide);exact (h3.land (k:=(f s).code.length) (Or.inr rfl)).cong (fun k=>⟨False.elim,fun h=>by simp only [false_or] at h;omega⟩)
structure Sane (c:Ck):Prop where
 hn:∀ m at_ n:Int,1<=n->numB c m at_ n=true->(0<=at_/\at_<=2048)/\(0<=m/\m<=c.uses)
 hp:∀ m at_ k:Int,zjn c m at_ k=true->(0<=at_/\at_<=2048)/\(0<=m/\m<=c.uses)
 hl:c.locals<=64
theorem z5d {c:Ck} (hc:Sane c):∀ (k:Nat) (x:Nd),zax c x=true->zgf c k x.args=true->zdk c.uses (ndW (k+1) x):=by
 have Cy:∀ (k:Nat) (x:Nd),zax c x=true->(∀ y ∈ x.args,zdk c.uses (ndW k y))->zdk c.uses (ndW (k+1) x):=by
  intro k x hx hN s;obtain ⟨op,n,m,at_,args⟩:=x
  have hA:∀ i,zdk c.uses (ndW k (argN args i)):=fun i s=>by
   by_cases hi:i<args.length
   . rw [zgo _ _ hi];exact hN _ (vaj hi) s
   . have:argN args i=nd0:=by simp [argN,vay,vbq (Nat.le_of_not_lt hi)]
     rw [this]
     cases k with
     | zero=>exact Adds.refl s
     | succ k=>exact (Adds.refl s).put 10 0 0 (by decide)
  rw [ndW_succ];unfold ndStep
  by_cases e1:op=1
  . subst e1
    have Bx:(decide (args.length=0)&&(decide (0<=n/\n<=1099511627775)&&(decide (m=0)&&decide (at_=0))))=true:=hx;simp only [vac,decide_eq_true_eq] at Bx;rw [if_pos rfl];exact (Adds.refl s).put _ _ _ (by omega)
  rw [if_neg e1]
  by_cases e2:op=2
  . rw [if_pos e2];exact (Adds.refl s).put _ _ _ (by decide)
  rw [if_neg e2]
  by_cases e3:op=16
  . subst e3
    have:=hc.hl;have Bx:(decide (args.length=0)&&(decide (n=0)&&(decide (m=0)&&zxa c at_)))=true:=hx;simp only [zxa,vac,decide_eq_true_eq] at Bx;rw [if_pos rfl];exact (Adds.refl s).put _ _ _ (by omega)
  rw [if_neg e3]
  by_cases e4:op=3
  . subst e4
    have Bx:(decide (args.length=0)&&(decide (n=0)&&numB c m at_ 1))=true:=hx;simp only [vac] at Bx;rw [if_pos rfl];have:=hc.hn _ _ _ (by decide) Bx.2.2;exact (Adds.refl s).fix _ _ _ _ _ (Or.inr rfl) (by omega) this.2
  rw [if_neg e4]
  by_cases e5:op=4
  . subst e5
    have Bx:(decide (args.length=1)&&(decide (1<=n/\n<=32)&&numB c m at_ n))=true:=hx;simp only [vac,decide_eq_true_eq] at Bx;rw [if_pos rfl];have:=hc.hn _ _ _ Bx.2.1.1 Bx.2.2;exact ((hA 0 s).fix _ _ _ _ _ (Or.inr rfl) (by omega) this.2).put _ _ _ (by decide)
  rw [if_neg e5]
  by_cases e6:op=5
  . subst e6
    have Bx:(decide (n=0)&&zjn c m at_ args.length)=true:=hx;simp only [vac] at Bx;rw [if_pos rfl];have:=hc.hp _ _ _ Bx.2;exact (zjw hN s).fix _ _ _ _ _ (Or.inl rfl) (by omega) this.2
  rw [if_neg e6];have hl:=ztv hx e1 e3 e4 e5 e6
  by_cases e7:op=6
  . rw [if_pos e7];exact (hA 0 s).put _ _ _ (by decide)
  rw [if_neg e7]
  by_cases e8:op=7
  . rw [if_pos e8];exact z1v (hA 0) (hA 1) s
  rw [if_neg e8]
  by_cases e9:op=8
  . rw [if_pos e9];exact z5a (hA 0) (hA 1) s
  rw [if_neg e9];refine (zjw hN s).put _ _ _ ?_;unfold argsOf at hl;rw [if_neg e2,if_neg e7] at hl
  split at hl<;>omega
 intro k
 induction k with
 | zero=>intro x h1 h2;exact Cy 0 x h1 (fun y hy s=>Adds.refl s)
 | succ k ih=>
   intro x h1 h2;refine Cy (k+1) x h1 (fun y hy=>?_);rw [show zgf c (k+1) x.args=x.args.all (fun x=>zax c x&&zgf c k x.args) from rfl,vas] at h2;have h4:=h2 y hy;rw [vac] at h4;exact ih y h4.1 h4.2
theorem zso {c:Ck} (hc:Sane c):∀ (k:Nat) (l:List Ac),zeo c k l=true->∀ y ∈ l,zdk c.uses (acW k y)
 | 0,l,h=>by simp [zeo] at h
 | k + 1,l,h=>fun y hy s=>by
   obtain ⟨h1,h2,h3,h4⟩:=z0t h hy;obtain ⟨op,n,m,at_,args,body,other⟩:=y;obtain ⟨⟨o1,o7⟩,l2,l1⟩:=zlv h1;simp only [Ac.args,Ac.body,Ac.other] at h2 h3 h4
   have hN:∀ z ∈ args,zdk c.uses (ndW 6 z):=fun z hz=>by
    rw [show zgf c 6 args=args.all (fun x=>zax c x&&zgf c 5 x.args) from rfl,vas] at h2;have h5:=h2 z hz;rw [vac] at h5;exact z5d hc 5 z h5.1 h5.2
   have hA:∀ i,i<args.length->zdk c.uses (ndW 6 (argN args i)):=fun i hi=>by
    rw [zgo _ _ hi];exact hN _ (vaj hi)
   have nil:∀ (q:List Ac),q.length=0->zdk c.uses (zdh (acW k) q):=fun q hq s=>by
    rw [vak hq];exact Adds.refl s
   have hB:zdk c.uses (zdh (acW k) body):=by
    rcases h3 with h3 | h3
    . exact zjx (zso hc k _ h3)
    . exact nil _ h3
   have hO:zdk c.uses (zdh (acW k) other):=by
    rcases h4 with h4 | h4
    . exact zjx (zso hc k _ h4)
    . exact nil _ h4
   rw [zpp];unfold zvo
   by_cases e3:op=3
   . subst e3
     have D6:(decide (n=0)&&zjn c m at_ args.length)=true:=h1;simp only [vac] at D6;have:=hc.hp _ _ _ D6.2;simp only [show ¬ ((3:Int)=1) from by decide,show ¬ ((3:Int)=2) from by decide,if_true,if_false];exact ((zjw hN s).fix _ _ _ _ _ (Or.inl rfl) (by omega) this.2).put _ _ _ (by decide)
   have Bm:0<args.length:=by
    by_cases e2:op=2
    . have:=l2 e2;omega
    . have:=l1 e2 e3;omega
   have h0:=hA 0 Bm
   by_cases e1:op=1
   . subst e1
     have D6:(decide (args.length=1)&&(decide (n=0)&&(if m = -1 then zxa c at_ else numB c m at_ 1)))=true:=h1;rw [vac,vac] at D6;have h5:=D6.2.2;rw [if_pos rfl];unfold z4g;split
     . rename_i em
       rw [if_pos em] at h5;have:=hc.hl;simp only [zxa,decide_eq_true_eq] at h5;exact (h0 s).put _ _ _ (by omega)
     . rename_i em
       rw [if_neg em] at h5;have:=hc.hn _ _ _ (by decide) h5;exact (h0 s).fix _ _ _ _ _ (Or.inr rfl) (by omega) this.2
   rw [if_neg e1]
   by_cases e2:op=2
   . subst e2
     have h7:=hA 1 (by have:=l2 rfl;omega);have D6:(decide (args.length=2)&&(decide (1<=n/\n<=32)&&numB c m at_ n))=true:=h1;simp only [vac,decide_eq_true_eq] at D6;have:=hc.hn _ _ _ D6.2.1.1 D6.2.2;rw [if_pos rfl];exact (((h0 s).fix _ _ _ _ _ (Or.inr rfl) (by omega) this.2).then (h7 _)).put _ _ _ (by decide)
   rw [if_neg e2,if_neg e3]
   by_cases e4:op=4
   . rw [if_pos e4];exact z5b h0 hB hO _ s
   rw [if_neg e4]
   by_cases e5:op=5
   . rw [if_pos e5];exact z5c h0 hB s
   rw [if_neg e5]
   by_cases e6:op=6
   . rw [if_pos e6];exact (h0 s).put _ _ _ (by decide)
   rw [if_neg e6]
   by_cases e7:op=7
   . rw [if_pos e7];exact (h0 s).put _ _ _ (by decide)
   rw [if_neg e7];exact Adds.refl s
theorem zqp {c:Ck} (hc:Sane c) (p:Pt) (h:zeo c 6 p.body=true) (hp:ptB p=true) (s:Wrt):∃ t,Adds c.uses (fun _=>False) s t/\s.code.length<t.code.length/\zpn p s=zbq 15 0 0 (zbq 1 0 0 t):=by
 unfold ptB at hp;simp only [vac,decide_eq_true_eq] at hp;have h1:=(Adds.refl (us:=c.uses) s).put 14 p.params p.locals (by omega);have h2:=zjx (zso hc 6 p.body h) (zbq 14 p.params p.locals s);have:=h2.le;rw [zac] at this;exact ⟨_,h1.then h2,by omega,rfl⟩
def zyr (B:List Nat) (s:Wrt):Prop:=(∀ b ∈ B,b<=s.code.length)/\∀ f ∈ s.fixes,f.kind=1->∃ (k:Nat) (i:Gi),s.code[k]? = some i/\f.at_=(k:Int)/\i.a<s.code.length/\∀ b ∈ B,(k<b->i.a<b)/\(b<=k->(b:Int)<=i.a)
theorem zyr.mem {B B':List Nat} {s:Wrt} (h:zyr B s) (hB:∀ b ∈ B',b ∈ B):zyr B' s:=
 ⟨fun b hb=>h.1 b (hB b hb),fun f hf hk=>by
  obtain ⟨k,i,h1,h2,h3,h4⟩:=h.2 f hf hk
  exact ⟨k,i,h1,h2,h3,fun b hb=>h4 b (hB b hb)⟩⟩
theorem zyr.more {B:List Nat} {s:Wrt} (h:zyr B s):zyr (s.code.length :: B) s:=by
 refine ⟨fun b hb=>?_,fun f hf hk=>?_⟩
 . rcases vca.1 hb with rfl | hb
   . exact vaa _
   . exact h.1 b hb
 . obtain ⟨k,i,h1,h2,h3,h4⟩:=h.2 f hf hk
   refine ⟨k,i,h1,h2,h3,fun b hb=>?_⟩
   rcases vca.1 hb with rfl | hb
   . have:=zd3 h1
     exact ⟨fun _=>h3,fun h=>by omega⟩
   . exact h4 b hb
theorem zyr.body {us:Int} {B:List Nat} {s t:Wrt} (h:zyr B s) (ha:Adds us (fun _=>False) s t):zyr B (zbq 15 0 0 (zbq 1 0 0 t)):=by
 obtain ⟨e,he,_,hf⟩:=ha.fx;have hl:=ha.le
 have len:(zbq 15 0 0 (zbq 1 0 0 t)).code.length=t.code.length+2:=by rw [zac,zac]
 have old:∀ k,k<t.code.length->(zbq 15 0 0 (zbq 1 0 0 t)).code[k]? = t.code[k]?:=fun k hk=>by
  simp only [zbq];rw [vbb (by simp;omega),vbb hk]
 refine ⟨fun b hb=>by have:=h.1 b hb;rw [len];omega,fun f ER hk=>?_⟩
 have M6:f ∈ s.fixes++e:=by rw [← he];exact ER
 rw [len]
 rcases vbs.1 M6 with h1 | h1
 . obtain ⟨k,i,h1,h2,h3,h4⟩:=h.2 f h1 hk
   have Qq:=zd3 h1;exact ⟨k,i,(old k (by omega)).trans ((ha.pre k Qq).trans h1),h2,by omega,h4⟩
 . obtain ⟨k,i,h1,h2,h3,h4⟩:=hf f h1
   refine ⟨k,i,(old k (zd3 h1)).trans h1,h2,?_,fun b hb=>?_⟩
   all_goals rcases h4 with ⟨_,_,h5 | h5⟩ | ⟨h5,_⟩
   . exact h5.elim
   . omega
   . omega
   . exact h5.elim
   . have:=h.1 b hb
     exact ⟨fun _=>by omega,fun _=>by omega⟩
   . omega
theorem zys {u:Un} (h:zdo u=true) (lc:Int) (hl:lc<=64):Sane (zif u ziy zig lc):=by
 have h6:=zid h;have hd:=ziv h;refine ⟨fun m at_ n hn h=>?_,fun m at_ k h=>?_,hl⟩
 . unfold numB at h
   split at h
   . rename_i e
     have h:0<=at_/\at_+n<=u.data:=of_decide_eq_true h;subst e;exact ⟨by omega,by omega,by simp only [zif];omega⟩
   . rw [vac] at h
     obtain ⟨h1,h2⟩:=h;have h1:1<=m/\m<=u.uses.length:=of_decide_eq_true h1;have h2:ziy m at_ n=true:=h2;simp only [ziy,Bool.or_eq_true,z00,decide_eq_true_eq] at h2;exact ⟨by omega,by omega,by simp only [zif];omega⟩
 . unfold zjn at h
   split at h
   . rename_i e
     have h:zvb u.parts at_ k=true:=h;unfold zvb at h;rw [vac,decide_eq_true_eq] at h;obtain ⟨h1,h2⟩:=h
     cases hq:u.parts[at_.toNat]? with
     | none=>rw [hq] at h2;cases h2
     | some p=>
       have:=zd3 hq;subst e;exact ⟨by omega,by omega,by simp only [zif];omega⟩
   . rw [vac] at h
     obtain ⟨h1,h2⟩:=h;have h1:1<=m/\m<=u.uses.length:=of_decide_eq_true h1;have h2:zig m at_ k=true:=h2;simp only [zig,vac,decide_eq_true_eq] at h2;exact ⟨by omega,by omega,by simp only [zif];omega⟩
def startsTo (l:List Pt) (j:Nat):List Nat:=(List.range j).map (fun i=>(zb1 (l.take i)).code.length)
theorem zm7 {u:Un} (h:ze0 u ziy zig=true):∀ j,j<=u.parts.length->Adds u.uses.length (fun _=>False) wr0 (zb1 (u.parts.take j))/\zyr (startsTo u.parts j) (zb1 (u.parts.take j))
 | 0,_=>⟨Adds.refl _,fun b hb=>by simp [startsTo] at hb,fun f hf=>by cases hf⟩
 | j + 1,hj=>by
   obtain ⟨h1,h2⟩:=zm7 h j (by omega);obtain ⟨hp,_,hh⟩:=zb0 h
   have O0:ptB u.parts[j]=true:=by
    unfold zdo at hh;simp only [vac,vas] at hh;exact hh.2.1 _ (vaj (by omega))
   have Jd:u.parts[j].params+u.parts[j].locals<=64:=by
    have:=O0;unfold ptB at this;simp only [vac,decide_eq_true_eq] at this;omega
   obtain ⟨t,ha,_,hb⟩:=zqp (zys hh _ Jd) u.parts[j] (hp _ (vaj (by omega))) O0 (zb1 (u.parts.take j));rw [zhi _ _ (by omega),hb];refine ⟨((h1.then ha).put 1 0 0 (by decide)).put 15 0 0 (by decide),(h2.more.body ha).mem (fun b hb=>?_)⟩;unfold startsTo at hb;rw [vdz,vbr,vbs] at hb
   rcases hb with hb | hb
   . exact vai _ hb
   . simp only [vcn,vdq,vcg] at hb
     subst hb;exact var ..
theorem z1w {u:Un} (h:ze0 u ziy zig=true):Adds u.uses.length (fun _=>False) wr0 (genS u)/\zyr ((zb1 u.parts).code.length :: startsTo u.parts u.parts.length) (genS u)/\(zb1 u.parts).code.length<(genS u).code.length/\∀ b ∈ startsTo u.parts u.parts.length,b<=(zb1 u.parts).code.length:=by
 obtain ⟨h1,h2⟩:=zm7 h _ (vaa _);rw [vau] at h1 h2;obtain ⟨_,hm,hh⟩:=zb0 h;obtain ⟨t,ha,hl,hb⟩:=zqp (zys hh 0 (by decide)) ⟨0,0,u.main⟩ hm rfl (zb1 u.parts);unfold genS;rw [hb];refine ⟨((h1.then ha).put 1 0 0 (by decide)).put 15 0 0 (by decide),h2.more.body ha,?_,h2.1⟩;rw [zac,zac];omega
theorem zsp (l:List Pt):entsW l=(startsTo l l.length).map (fun n:Nat=>(n:Int)):=by
 unfold entsW startsTo;rw [List.map_map]
 rfl
structure Smi (lim lim':Nat) where
 Sm:Nat->(α:Type)->(Sw->Rr α)->(Sw->Rr α)->Prop
 ok:∀ n α (a:α),Sm n α (fun s=>.ok a s) (fun s=>.ok a s)
 stop:∀ n α (e:Int),e≠3->Sm n α (fun s=>.stop e s) (fun s=>.stop e s)
 bind:∀ n α β (F F':Sw->Rr α) (f f':α->Sw->Rr β),Sm n α F F'->(∀ a,Sm n β (f a) (f' a))->Sm n β (fun s=>(F s).bind f) (fun s=>(F' s).bind f')
 tick:∀ n α (F F':Sw->Rr α),Sm n α F F'->Sm (n+1) α (fun s=>(zjq lim s).bind fun _ s=>F s) (fun s=>(zjq lim' s).bind fun _ s=>F' s)
 next:∀ n,Sm n Int zpt zpt
 tell:∀ n v,Sm n Unit (ztz v) (ztz v)
 get:∀ n α (g:List Int->α),Sm n α (fun s=>.ok (g s.data) s) (fun s=>.ok (g s.data) s)
 set:∀ n α (i:Nat) (v:Int) (a:α),Sm n α (fun s=>.ok a { s with data:=s.data.set i v }) (fun s=>.ok a { s with data:=s.data.set i v })
 dip:∀ n α β (F F':Sw->Rr α) (g:α->β),Sm n α F F'->Sm n β (fun s=>if s.calls=24 then .stop 4 s else (F { s with calls:=s.calls+1 }).bind fun a s=>.ok (g a) { s with calls:=s.calls - 1 }) (fun s=>if s.calls=24 then .stop 4 s else (F' { s with calls:=s.calls+1 }).bind fun a s=>.ok (g a) { s with calls:=s.calls - 1 })
section
variable {lim lim':Nat} (I:Smi lim lim') {n:Nat}
theorem Smi.pick {α:Type} {F F' G G':Sw->Rr α} (p:Prop) [Decidable p] (hF:I.Sm n α F F') (hG:I.Sm n α G G'):I.Sm n α (fun s=>if p then F s else G s) (fun s=>if p then F' s else G' s):=by
 by_cases h:p
 . simp only [if_pos h];exact hF
 . simp only [if_neg h];exact hG
theorem zul {f f':Nd->Sw->Rr Int} (h:∀ x,I.Sm n Int (f x) (f' x)):∀ l,I.Sm n (List Int) (ze4 f l) (ze4 f' l)
 | []=>I.ok n _ []
 | x :: r=>I.bind n _ _ _ _ _ _ (h x) (fun v=>I.bind n _ _ _ _ _ _ (zul h r) (fun vs=>I.ok n _ (v :: vs)))
theorem zyt {f f':Sw->Rr Int} (h:I.Sm n Int f f') (p m:Int):I.Sm n Int (z8m f p m) (z8m f' p m):=
 I.bind n _ _ _ _ _ _ h (fun i=>I.pick (i<0\/m<=i) (I.stop n _ 2 (by decide)) (I.ok n _ (p+i)))
variable {E E':z02} (hE:∀ u b l,I.Sm n Int (E u b l) (E' u b l)) (cx:Cx) (m':Nat)
include hE
theorem zum (u:Nat) {f f':Nd->Sw->Rr Int} (h:∀ x,I.Sm n Int (f x) (f' x)) (m at_:Int) (l:List Nd):I.Sm n Int (zvq E cx u f m at_ l) (zvq E' { cx with lim:=m' } u f' m at_ l):=
 I.bind n _ _ _ _ _ _ (zul I h l) (fun vs=>hE _ _ _)
theorem zyu (u:Nat) (loc:List Int):∀ k x,I.Sm n Int (vN E cx u loc k x) (vN E' { cx with lim:=m' } u loc k x)
 | 0,x=>I.ok n _ 0
 | k + 1,x=>by
   have ih:=zyu u loc k;refine I.pick (x.op=1) (I.ok n _ x.n) (I.pick (x.op=2) (I.next n) (I.pick (x.op=16) (I.ok n _ _) (I.pick (x.op=3) (I.get n _ fun d=>d.getD (z6w cx u x.m x.at_).toNat 0) (I.pick (x.op=4) ?_ (I.pick (x.op=5) (zum I hE cx m' u ih x.m x.at_ x.args) (I.pick (x.op=6) ?_ (I.pick (x.op=7) ?_ (I.pick (x.op=8) ?_ ?_))))))))
   . exact I.bind n _ _ _ _ _ _ (zyt I (ih (argN x.args 0)) _ _) (fun p=>I.get n _ fun d=>d.getD p.toNat 0)
   . exact I.bind n _ _ _ _ _ _ (ih (argN x.args 0)) (fun v=>I.ok n _ _)
   . exact I.bind n _ _ _ _ _ _ (ih (argN x.args 0)) (fun v=>I.pick (v=0) (I.ok n _ 0) (I.bind n _ _ _ _ _ _ (ih (argN x.args 1)) (fun v=>I.ok n _ _)))
   . exact I.bind n _ _ _ _ _ _ (ih (argN x.args 0)) (fun v=>I.pick (v=0) (I.bind n _ _ _ _ _ _ (ih (argN x.args 1)) (fun v=>I.ok n _ _)) (I.ok n _ 1))
   . refine I.bind n _ _ _ _ _ _ (ih (argN x.args 0)) (fun a=>I.bind n _ _ _ _ _ _ (ih (argN x.args 1)) (fun b=>?_))
     cases ofS x.op a b with
     | none=>exact I.stop n _ 1 (by decide)
     | some v=>exact I.ok n _ v
omit hE in
theorem zm8 {f f':Ac->Fr->Sw->Rr (Bool × Fr)} (h:∀ a c,I.Sm n _ (f a c) (f' a c)):∀ l c,I.Sm n _ (bN f l c) (bN f' l c)
 | [],c=>I.ok n _ (false,c)
 | a :: r,c=>I.bind n _ _ _ _ _ _ (h a c) (fun d=>I.pick (d.1=true) (I.ok n _ (true,d.2)) (zm8 h r d.2))
theorem zun {L L':Whl} (hL:∀ u x b c,I.Sm n _ (L u x b c) (L' u x b c)) (u:Nat):∀ k a c,I.Sm n _ (aN E L cx u k a c) (aN E' L' { cx with lim:=m' } u k a c)
 | 0,a,c=>I.ok n _ (false,c)
 | k+1,a,c=>by
   have ih:=zun hL u k;have hv:=zyu I hE cx m' u c.loc 6;refine I.pick (a.op=1) ?_ (I.pick (a.op=2) ?_ (I.pick (a.op=3) ?_ (I.pick (a.op=4) ?_ (I.pick (a.op=5) (hL u _ _ c) (I.pick (a.op=6) ?_ (I.pick (a.op=7) ?_ (I.ok n _ (false,c))))))))
   . exact I.bind n _ _ _ _ _ _ (hv (argN a.args 0)) (fun v=>I.pick (a.m = -1) (I.ok n _ _) (I.set n _ (z6w cx u a.m a.at_).toNat v (false,c)))
   . exact I.bind n _ _ _ _ _ _ (zyt I (hv (argN a.args 0)) _ _) (fun p=>I.bind n _ _ _ _ _ _ (hv (argN a.args 1)) (fun v=>I.set n _ p.toNat v (false,c)))
   . exact I.bind n _ _ _ _ _ _ (zum I hE cx m' u hv a.m a.at_ a.args) (fun _=>I.ok n _ (false,c))
   . exact I.bind n _ _ _ _ _ _ (hv (argN a.args 0)) (fun v=>I.pick (v=0) (zm8 I ih a.other c) (zm8 I ih a.body c))
   . exact I.bind n _ _ _ _ _ _ (hv (argN a.args 0)) (fun v=>I.ok n _ _)
   . exact I.bind n _ _ _ _ _ _ (hv (argN a.args 0)) (fun v=>I.bind n _ _ _ _ _ _ (I.tell n v) (fun _=>I.ok n _ (false,c)))
end
structure Alike {lim lim':Nat} (I:Smi lim lim') (n:Nat) (r r':Lv):Prop where
 ent:∀ u b l,I.Sm n Int (r.ent u b l) (r'.ent u b l)
 whl:∀ u x b c,I.Sm n _ (r.whl u x b c) (r'.whl u x b c)
theorem zyv {lim lim':Nat} (I:Smi lim lim') {n:Nat} {r r':Lv} (h:Alike I n r r') (cx:Cx) (hc:cx.lim=lim) (u:Nat) (b:List Ac) (l:List Int):I.Sm (n+1) Int (zxe r cx u b l) (zxe r' { cx with lim:=lim' } u b l):=by
 subst hc;exact I.tick n _ _ _ (I.dip n _ _ (bN (aN r.ent r.whl cx u 6) b ⟨l,0⟩) (bN (aN r'.ent r'.whl { cx with lim:=lim' } u 6) b ⟨l,0⟩) (fun d=>d.2.ret) (zm8 I (zun I h.ent cx lim' h.whl u 6) b ⟨l,0⟩))
theorem z5e {lim lim':Nat} (I:Smi lim lim') {n:Nat} {r r':Lv} (h:Alike I n r r') (cx:Cx) (hc:cx.lim=lim) {E E':z02} (hE:∀ u b l,I.Sm (n+1) Int (E u b l) (E' u b l)) (u:Nat) (x:Nd) (b:List Ac) (c:Fr):I.Sm (n+1) _ (z6k r cx E u x b c) (z6k r' { cx with lim:=lim' } E' u x b c):=by
 subst hc;refine I.bind (n+1) _ _ _ _ _ _ (zyu I hE cx lim' u c.loc 6 x) (fun v=>I.pick (v=0) (I.ok _ _ (false,c)) (I.tick n _ _ _ ?_));exact I.bind n _ _ _ _ _ _ (zm8 I (zun I h.ent cx lim' h.whl u 6) b c) (fun d=>I.pick (d.1=true) (I.ok n _ (true,d.2)) (h.whl u x b d.2))
theorem z1x {lim lim':Nat} (I:Smi lim lim') {n:Nat} {r r':Lv} (h:Alike I n r r') (cx:Cx) (hc:cx.lim=lim):Alike I (n+1) ⟨zxe r cx,z6k r cx (zxe r cx)⟩ ⟨zxe r' { cx with lim:=lim' },z6k r' { cx with lim:=lim' } (zxe r' { cx with lim:=lim' })⟩:=
 ⟨zyv I h cx hc,z5e I h cx hc (zyv I h cx hc)⟩
def lvp (cx:Cx):Nat->Lv
 | 0=>lv0
 | k+1=>lv cx k
theorem z32 (cx:Cx):∀ t,lvp cx (t+1)=⟨zxe (lvp cx t) cx,z6k (lvp cx t) cx (zxe (lvp cx t) cx)⟩
 | 0=>rfl
 | _+1=>rfl
def Rr.st {α:Type}:Rr α->Sw
 | .ok _ s=>s
 | .stop _ s=>s
theorem zuo {lim:Nat} {s:Sw} (h:s.ticks=lim):zjq lim s = .stop 3 s:=if_pos h
theorem zyw {lim:Nat} {s:Sw} (h:s.ticks≠lim):zjq lim s = .ok () { s with ticks:=s.ticks+1 }:=if_neg h
def z5f (s t:Sw):Prop:=s.out <+: t.out/\t.data.length=s.data.length/\(s.out.length<=200->t.out.length<=200)/\s.ticks<=t.ticks
theorem z5f.refl (s:Sw):z5f s s:=⟨List.prefix_refl _,rfl,id,vaa _⟩
theorem z5f.trans {a b c:Sw} (h:z5f a b) (k:z5f b c):z5f a c:=⟨h.1.trans k.1,k.2.1.trans h.2.1,fun x=>k.2.2.1 (h.2.2.1 x),vbc h.2.2.2 k.2.2.2⟩
def Kp {α:Type} (F:Sw->Rr α):Prop:=∀ s,z5f s (F s).st
def Cq {α:Type} (F:Sw->Rr α):Prop:=∀ s a t,F s = .ok a t->t.calls=s.calls
def z1y (lim lim':Nat):Smi lim lim' where
 Sm:=fun _ _ _ F'=>Cq F'
 ok:=fun _ _ _ s a t h=>by cases h;rfl
 stop:=fun _ _ _ _ s a t h=>by cases h
 bind:=fun _ _ _ _ F' _ f' h1 h2 s a t h=>by
  have h:(F' s).bind f' = .ok a t:=h
  cases hr:F' s with
  | ok b u=>rw [hr] at h;exact (h2 b u a t h).trans (h1 s b u hr)
  | stop e u=>rw [hr] at h;cases h
 tick:=fun _ _ _ F' h1 s a t h=>by
  have h:(zjq lim' s).bind (fun _ s=>F' s) = .ok a t:=h
  by_cases hl:s.ticks=lim'
  . rw [zuo hl] at h;cases h
  . rw [zyw hl] at h;exact h1 { s with ticks:=s.ticks+1 } a t h
 next:=fun _ s a t h=>by
  unfold zpt at h
  split at h<;>(cases h;rfl)
 tell:=fun _ v s a t h=>by
  unfold ztz at h
  split at h
  . cases h
  . cases h;rfl
 get:=fun _ _ _ s a t h=>by cases h;rfl
 set:=fun _ _ _ _ _ s a t h=>by cases h;rfl
 dip:=fun _ _ _ _ F' g h1 s a t h=>by
  have h:(if s.calls=24 then Rr.stop 4 s else (F' { s with calls:=s.calls+1 }).bind fun a s=>.ok (g a) { s with calls:=s.calls - 1 }) = .ok a t:=h
  split at h
  . cases h
  . cases hr:F' { s with calls:=s.calls+1 } with
    | stop e u=>rw [hr] at h;cases h
    | ok b u=>
      rw [hr] at h;have:=h1 _ b u hr;cases h;show u.calls - 1=s.calls;rw [this];show s.calls+1 - 1=s.calls;omega
theorem zoq (cx:Cx):∀ t,Alike (z1y cx.lim cx.lim) 0 (lvp cx t) (lvp cx t)
 | 0=>⟨fun _ _ _ s a t h=>(by cases h),fun _ _ _ _ s a t h=>(by cases h)⟩
 | t+1=>by
   have ih:=zoq cx t;have:=z1x (z1y cx.lim cx.lim) ih cx rfl;rw [z32];exact ⟨this.ent,this.whl⟩
end Go.Proofs.YtndkhgakfodldaaGreatDoor
