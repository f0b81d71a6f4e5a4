/-
  Package gen: Gen, where the unit is right.
-/
import Derived.Test.YtndkhgakfodldaaGreatDoorNj
import Derived.Test.YtndkhgakfodldaaGreatDoorUn
namespace Go.Proofs.YtndkhgakfodldaaGreatDoor
set_option maxRecDepth 100000
set_option maxHeartbeats 6400000
open Go.RowKit Go.Maps Go.WideMaps
set_option linter.unusedSimpArgs false
set_option linter.unusedVariables false
theorem Tryz.infoInt:(Tryz.prog.info? 3).map (fun i=>(i.zero,i.size,i.bytes))=some (some (.int .i64 0),1,8):=by kernel_rfl
theorem Wri.new {w0 w:World} {K:List (Nat × Obj)} (hb:Below w0.heap.size w0 w) (hK:∀ x ∈ K,w.heap[x.1]? = some x.2):Wri w0 (w.alloc (.cells #[.slice none 0 0,.slice none 0 0] 136)) w.heap.size K wr0:=
 ⟨Nat.le_refl _,_,_,{
  blk:=heap_newP _ _
  hR:=hb.size
  code:=World.ownsRow_nil _ _ _ _
  fix:=World.ownsRow_nil _ _ _ _
  apt:=Apt.nil _
  nc:=fun e=>by simp [Value.ownBlock] at e
  nf:=fun e=>by simp [Value.ownBlock] at e
  below:=hb.alloc hb.size _
  kp:=fun x hx=>⟨heap_old (hK x hx),fun e=>by have:=lt_of_heap (hK x hx);omega,fun e=>by simp [Value.ownBlock] at e,fun e=>by simp [Value.ownBlock] at e⟩}⟩
theorem headB_uses {u:Un} (h:headB u=true):u.uses.length<=3:=by
 unfold headB at h;rw [Bool.and_eq_true] at h;exact (many_parts (chk_err (of_decide_eq_true h.1))).1
theorem own7 {W:World} {B:Nat} {e:TypeId} {sz:Nat} {v:Value} {n:Nat} {xs:List Value} {b:Nat} (h:W.ownsRow B e sz v n xs) (hb:v.ownBlock≠some b) (v0 v1 v2 v3 v4 v5 v6:Value) :
 (((((((W.setCell ⟨b,0,none⟩ v0).setCell ⟨b,1,none⟩ v1).setCell ⟨b,2,none⟩ v2).setCell ⟨b,3,none⟩ v3).setCell ⟨b,4,none⟩ v4).setCell ⟨b,5,none⟩ v5).setCell ⟨b,6,none⟩ v6).ownsRow B e sz v n xs:=by
 refine ownsRow_keep h (fun k hk=>?_)
 have hne:k≠b:=fun e=>hb (by rw [hk,e])
 rw [heap_set_ne (p:=⟨b,6,none⟩) hne,heap_set_ne (p:=⟨b,5,none⟩) hne,heap_set_ne (p:=⟨b,4,none⟩) hne,heap_set_ne (p:=⟨b,3,none⟩) hne,heap_set_ne (p:=⟨b,2,none⟩) hne,heap_set_ne (p:=⟨b,1,none⟩) hne,heap_set_ne (p:=⟨b,0,none⟩) hne]
theorem ownsRow_lower {W:World} {B B':Nat} {e:TypeId} {sz:Nat} {v:Value} {n:Nat} {xs:List Value} (h:W.ownsRow B e sz v n xs) (hb:B'<=B):W.ownsRow B' e sz v n xs:=by
 refine ⟨h.1,?_⟩
 rcases h.2 with h1 | ⟨g,cap,cur,hv,hB,hr⟩
 . exact Or.inl h1
 . exact Or.inr ⟨g,cap,cur,hv,Nat.le_trans hb hB,hr⟩
theorem Wre.has {w0 w:World} {R:Nat} {K:List (Nat × Obj)} {s:Wrt} {v:Value} {es:List Int} (h:Wre w0 w R K s v es) {b:Nat} {o:Obj} (hx:(b,o) ∈ K):w.heap[b]? = some o:=h.wri.has hx
theorem Gen_ok (u:Un) (x1:Option Addr) (y1:Nat) (x2:Option Addr) (y2:Nat) (x3:Option Addr) (y3:Nat) (w:World) (hU:UvAt w u x1 y1 x2 y2 x3 y3) (hc:Go.Lib.containsS u.uses u.name=false) (hh:holdB u numS prtS=true) :
 Calls Tryz.prog 31 #[.agg #[.string u.name,.slice x1 u.uses.length y1,.int .i64 u.data,.slice x2 u.parts.length y2,.slice x3 u.main.length y3]] w fun e w'=>GenEnd w u e w'/\Below w.heap.size w w':=by
 have HB2:Hid (Below w.heap.size w ((w.alloc (.cells #[.string u.name,.slice x1 u.uses.length y1,.int .i64 u.data,.slice x2 u.parts.length y2,.slice x3 u.main.length y3] 42)).alloc (.cells #[.string ⟨#[]⟩,.slice none 0 0,.int .i64 0,.slice none 0 0,.slice none 0 0,.slice none 0 0,.int .i64 0] 62))):=((Below.refl _ _).alloc (Nat.le_refl _) _).alloc (by simp) _;have HC:=hid (containsU_any u.uses u.name x1 y1 _ (hU.later HB2.out).uses);have HH:=hid (holdS_any u x1 y1 x2 y2 x3 y3 _ (hU.later HB2.out));have hb1:=hU.uses.bound;have hbp:=hU.parts.bound;have HU:=hid hU;have HL:=hid (fun j hj=>partsW_le hh j hj);have HP:=hid (holdB_parts hh);have h6:=headB_six HP.out.2.2;have hu3:u.uses.length<=3:=headB_uses HP.out.2.2;have HE:=hid (genS_le hh)
 have HNe:Hid (¬ (Go.Lib.containsS u.uses u.name || !holdB u numS prtS)=true):=by show ¬ _;rw [hc,hh];decide
 rw [hc] at HC;rw [hh] at HH;clear hc hh hU;go_enter Tryz.func31,Tryz.ntmps31;go_wp2_with fail;refine HC.out.mono ?_;rintro e w' ⟨rfl,rfl⟩;go_wp2_with fail;refine HH.out.mono ?_;rintro e w3 ⟨rfl,hb3⟩
 have HK:Hid (∀ x ∈ [(w.heap.size,(.cells #[.string u.name,.slice x1 u.uses.length y1,.int .i64 u.data,.slice x2 u.parts.length y2,.slice x3 u.main.length y3] 42)),(w.heap.size+1,(.cells #[.string ⟨#[]⟩,.slice none 0 0,.int .i64 0,.slice none 0 0,.slice none 0 0,.slice none 0 0,.int .i64 0] 62))],w3.heap[x.1]? = some x.2):=fun x hx=>by
  have h1:=heap_newP (w.alloc (.cells #[.string u.name,.slice x1 u.uses.length y1,.int .i64 u.data,.slice x2 u.parts.length y2,.slice x3 u.main.length y3] 42)) (.cells #[.string ⟨#[]⟩,.slice none 0 0,.int .i64 0,.slice none 0 0,.slice none 0 0,.slice none 0 0,.int .i64 0] 62);rw [World.size_alloc] at h1;have h2:((w.alloc (.cells #[.string u.name,.slice x1 u.uses.length y1,.int .i64 u.data,.slice x2 u.parts.length y2,.slice x3 u.main.length y3] 42)).alloc (.cells #[.string ⟨#[]⟩,.slice none 0 0,.int .i64 0,.slice none 0 0,.slice none 0 0,.slice none 0 0,.int .i64 0] 62)).heap[w.heap.size]? = some (.cells #[.string u.name,.slice x1 u.uses.length y1,.int .i64 u.data,.slice x2 u.parts.length y2,.slice x3 u.main.length y3] 42):=heap_old (heap_newP w (.cells #[.string u.name,.slice x1 u.uses.length y1,.int .i64 u.data,.slice x2 u.parts.length y2,.slice x3 u.main.length y3] 42))
  rcases List.mem_cons.1 hx with rfl | hx
  . exact (hb3.block w.heap.size (by simp;omega)).trans h2
  . rw [List.mem_singleton] at hx
    subst hx;exact (hb3.block (w.heap.size+1) (by simp)).trans h1
 have HW:=hid (Wri.new (thenB HB2.out hb3) HK.out);obtain ⟨u0,u1,u2,u3,u4,uf⟩:=cellsOf5 (HK.out (w.heap.size,(.cells #[.string u.name,.slice x1 u.uses.length y1,.int .i64 u.data,.slice x2 u.parts.length y2,.slice x3 u.main.length y3] 42)) (List.mem_cons_self ..));have hlu:=lt_of_heap (HK.out (w.heap.size,(.cells #[.string u.name,.slice x1 u.uses.length y1,.int .i64 u.data,.slice x2 u.parts.length y2,.slice x3 u.main.length y3] 42)) (List.mem_cons_self ..));clear hb3;go_wp2_with fail;clear u0 u1 u2 u3 u4 uf hlu;generalize hR:w3.heap.size=R at *;generalize hw4:w3.alloc (.cells #[.slice none 0 0,.slice none 0 0] 136)=w4 at *
 go_loopw [5,28] (fun v i wr=>∃ j:Nat,j<=u.parts.length/\i = .int .i64 j/\Wre w wr R [(w.heap.size,(.cells #[.string u.name,.slice x1 u.uses.length y1,.int .i64 u.data,.slice x2 u.parts.length y2,.slice x3 u.main.length y3] 42)),(w.heap.size+1,(.cells #[.string ⟨#[]⟩,.slice none 0 0,.int .i64 0,.slice none 0 0,.slice none 0 0,.slice none 0 0,.int .i64 0] 62))] (partsW (u.parts.take j)) v (entsTo u.parts j)) (fun _ i _=>u.parts.length - (intOf i).toNat)
 case atStart=>exact ⟨0,Nat.zero_le _,rfl,Wre.start HW.out⟩
 case round=>
  obtain ⟨j,hj,rfl,hw⟩:=hrel;have H1:=hid hw;obtain ⟨ea,ec,rfl, -, -⟩:=hw.form;rw [entsTo_len] at *;clear hw
  by_cases hlt:j<u.parts.length
  . obtain ⟨b,off,pa,pc,rfl,hx⟩:=HU.out.parts.pt j hlt
    have hB:=H1.out.wri.below;have hbl:b<wr.heap.size:=Nat.lt_of_lt_of_le hx.lt hB.size;have z0:=(hB.cell (p:=⟨b,off+j*3,none⟩) hx.lt).trans hx.c0;have z1:=(hB.cell (p:=⟨b,off+j*3+1,none⟩) hx.lt).trans hx.c1;have z2:=(hB.cell (p:=⟨b,off+j*3+2,none⟩) hx.lt).trans hx.c2;have HA:=hid hx.body';have HT:=hid (partsW_take u.parts j hlt);have HQ:=hid (HP.out.1 _ (List.getElem_mem hlt));have HS:=hid (HL.out (j+1) (by omega));have HS0:=hid (HL.out j hj);rw [HT.out] at HS;clear hx hB;generalize u.parts[j]=p at *;have HB:=hid (H1.out.box (.cells #[.int .i64 p.params,.int .i64 p.locals,.slice pa p.body.length pc] 106));have HBo:=hid HB.out.own;rw [entsTo_len] at HBo;go_wp2_with fail;refine (here_any HB.out.wri).mono ?_;rintro e w5 ⟨rfl,rfl⟩
    go_wp2_with (at_builtin;refine append_w rfl (.tmp 32) (.tmp 35) 49 rfl w.heap.size 3 _ 1 8 Tryz.underlying49 Tryz.infoInt rfl (by decide) (wr.alloc (.cells #[.int .i64 p.params,.int .i64 p.locals,.slice pa p.body.length pc] 106)) (.slice ea j ec) j (intV (entsTo u.parts j)) rfl HBo.out #[.int .i64 (partsW (u.parts.take j)).code.length] (wr.heap.size+1) (by simp) rfl rfl (by simp;rfl) (by omega) (by decide) HB.out.wri.below.size _ rfl ?_;intro g5 c5 w5 ho;have HO:=hid (HB.out.onto (x:=((partsW (u.parts.take j)).code.length:Int)) (by rw [entsTo_len];exact ho));rw [entsTo_len,← entsTo_succ] at HO;obtain ⟨q0,q1,q2, -⟩:=cellsOf3 (HO.out.has (List.mem_cons_self ..));clear ho)
    refine (HO.out.call (fun K' h=>wbody_any (cap:=pc) HQ.out HA.out h (by have:=HS.out;omega))).mono ?_;rintro e w6 ⟨rfl,h6'⟩;have H6:=hid h6';clear h6' q0 q1 q2;go_wp2_with fail;go_roundw
    case rel=>exact ⟨j+1,by omega,by go_num,by rw [HT.out];exact H6.out.tail⟩
    case measure=>simp [intOf];omega
  . obtain rfl:j=u.parts.length:=by omega
    rw [List.take_length] at H1;have HM0:=hid (HL.out _ (Nat.le_refl _));rw [List.take_length] at HM0;obtain ⟨u0,u1,u2,u3,u4,uf⟩:=cellsOf5 (H1.out.has (List.mem_cons_self ..));go_wp2_with fail;refine (here_any H1.out.wri).mono ?_;rintro e w5 ⟨rfl,rfl⟩;go_wp2_with fail;refine (H1.out.call (fun K' h=>wbody_any (p:=⟨0,0,u.main⟩) (cap:=y3) HP.out.2.1 HU.out.main h (by have:=HE.out;unfold genS at this;omega))).mono ?_;rintro e w6 ⟨rfl,h6'⟩;have H6:Hid (Wre w w6 R [(w.heap.size,(.cells #[.string u.name,.slice x1 u.uses.length y1,.int .i64 u.data,.slice x2 u.parts.length y2,.slice x3 u.main.length y3] 42)),(w.heap.size+1,(.cells #[.string ⟨#[]⟩,.slice none 0 0,.int .i64 0,.slice none 0 0,.slice none 0 0,.slice none 0 0,.int .i64 0] 62))] (genS u) (.slice ea u.parts.length ec) (entsTo u.parts u.parts.length)):=h6';clear h6' u0 u1 u2 u3 u4 uf;go_wp2_with fail
    refine (isFull_any H6.out.wri).mono ?_
    cases hf:fullW (genS u) with
    | true=>
      rintro e w7 ⟨rfl,rfl⟩
      have HG:Hid (genM u = .error 2):=by show _=_;unfold genM;rw [if_neg HNe.out,if_pos hf]
      have hk:=H6.out.has (b:=w.heap.size+1) (List.mem_cons_of_mem _ (List.mem_cons_self ..));obtain ⟨q0,q1,q2,q3,q4,q5,q6,qz⟩:=cells7 hk;have hlt':=lt_of_heap hk
      have hfz:∀ j,w7.frozen? ⟨w.heap.size+1,j,none⟩=false:=fun j=>Lib.frozen_of_heap hk j
      have HB6:=hid H6.out.wri.below;clear hk hf;go_wp2_with fail;refine bodyPost_ret (v:=.tuple #[.agg #[.string ⟨#[]⟩,.slice none 0 0,.int .i64 0,.slice none 0 0,.slice none 0 0,.slice none 0 0,.int .i64 0],.int .i64 2]) (by simp [results,Tryz.results31,go_sem,q0,q1,q2,q3,q4,q5,q6,hlt']) rfl ⟨by unfold GenEnd;rw [HG.out],?_⟩;exact below7 HB6.out (by omega) _ _ _ _ _ _ _
    | false=>
      rintro e w7 ⟨rfl,rfl⟩
      have HG:Hid (genM u = .ok (genOb u)):=by show _=_;unfold genM;rw [if_neg HNe.out,if_neg (by rw [hf];decide)]
      obtain ⟨u0,u1,u2,u3,u4,uf⟩:=cellsOf5 (H6.out.has (List.mem_cons_self ..));have hub:=lt_of_heap (H6.out.has (List.mem_cons_self ..));have hob:=H6.out.has (b:=w.heap.size+1) (List.mem_cons_of_mem _ (List.mem_cons_self ..));obtain ⟨v',w8,hr8,ho8,hg8⟩:=run_append_strs w7.heap.size 22 (.slice none 0 0) 0 [] (World.ownsRow_nil _ _ _ _) u.uses x1 y1 (strs_at (HU.out.later H6.out.wri.below).uses).1 (by omega) (Nat.le_refl _);rw [Nat.zero_add,List.nil_append] at ho8;have hb8:Below w7.heap.size w7 w8:=(Below.refl _ w7).grown hg8 (Nat.le_refl _) (fun k hk=>by simp [Value.ownBlock] at hk);have HO8:=hid ho8;have HRn:=hid hr8;have hE8:=H6.out.later hb8;obtain ⟨E,hE,⟨hfl,cv,fv,hA⟩,hxx⟩:=hE8;have hEn:=(H6.out.later hb8).own;rw [entsTo_len] at hEn
      have hob8:=(hA.kp (w.heap.size+1,(.cells #[.string ⟨#[]⟩,.slice none 0 0,.int .i64 0,.slice none 0 0,.slice none 0 0,.slice none 0 0,.int .i64 0] 62)) (List.mem_append_right _ (List.mem_cons_of_mem _ (List.mem_cons_self ..))))
      have hub8:=(hA.kp (w.heap.size,(.cells #[.string u.name,.slice x1 u.uses.length y1,.int .i64 u.data,.slice x2 u.parts.length y2,.slice x3 u.main.length y3] 42)) (List.mem_append_right _ (List.mem_cons_self ..))).1;have HNe8:=hid (hxx (w.heap.size+1,(.cells #[.string ⟨#[]⟩,.slice none 0 0,.int .i64 0,.slice none 0 0,.slice none 0 0,.slice none 0 0,.int .i64 0] 62)) (List.mem_cons_of_mem _ (List.mem_cons_self ..)))
      have HNo:Hid (v'.ownBlock≠some (w.heap.size+1)):=fun e=>by
       have h1:=(HO8.out.lt _ e).1;have h2:=lt_of_heap hob;omega
      have HAt:=hid hA;have HEn:=hid hEn;have HOb:=hid hob8;obtain ⟨ua,uc,rfl, -⟩:=strV_own ho8;obtain ⟨ca,cc,rfl, -, -⟩:=ownsRow_form hA.code;obtain ⟨fa,fc,rfl, -, -⟩:=ownsRow_form hA.fix;obtain ⟨c0,c1, -⟩:=HAt.out.cells;have hRl:=HAt.out.ltR;obtain ⟨q0,q1,q2,q3,q4,q5,q6,qz⟩:=cells7 hob8.1
      have hfz:∀ j,w8.frozen? ⟨w.heap.size+1,j,none⟩=false:=fun j=>Lib.frozen_of_heap hob8.1 j
      have hlo:=lt_of_heap hob8.1;clear hb8 ho8 hg8 hr8 hf hE hfl hA hxx hEn hob hob8
      go_wp2_with (at_builtin;refine Lib.wpList_append_run _ rfl _ _ _ _ rfl _ _ rfl rfl _ w8 HRn.out ?_)
      clear u0 u1 u2 u3 u4 uf hub;obtain ⟨u0,u1,u2,u3,u4,uf⟩:=cellsOf5 hub8;have hub:=lt_of_heap hub8;clear hub8;have HLe:Hid (w.heap.size<=w7.heap.size):=H6.out.wri.below.size
      go_region
      go_wp2_with fail;refine bodyPost_ret (v:=.tuple #[.agg #[.string u.name,.slice ua u.uses.length uc,.int .i64 u.data,.slice ca (genS u).code.length cc,.slice fa (genS u).fixes.length fc,.slice ea u.parts.length ec,.int .i64 (partsW u.parts).code.length],.int .i64 0]) (by simp [results,Tryz.results31,go_sem,q0,q1,q2,q3,q4,q5,q6,hlo]) rfl ⟨?_,?_⟩
      . unfold GenEnd
        rw [HG.out];have hel:(genOb u).entries.length=u.parts.length:=entsTo_len ..;refine ⟨ua,uc,ca,cc,fa,fc,ea,ec,by rw [hel];rfl,?_,?_,?_,?_⟩
        . exact (ownsRow_lower (own7 HO8.out HNo.out _ _ _ _ _ _ _) HLe.out).drew
        . exact (own7 HAt.out.code HOb.out.2.2.1 _ _ _ _ _ _ _).drew
        . exact (own7 HAt.out.fix HOb.out.2.2.2 _ _ _ _ _ _ _).drew
        . rw [hel]
          exact (own7 HEn.out HNe8.out _ _ _ _ _ _ _).drew
      . exact (below7 HAt.out.below (by omega) _ _ _ _ _ _ _).drew
theorem Gen_any (u:Un) (x1:Option Addr) (y1:Nat) (x2:Option Addr) (y2:Nat) (x3:Option Addr) (y3:Nat) (w:World) (hU:UvAt w u x1 y1 x2 y2 x3 y3) :
 Calls Tryz.prog 31 #[.agg #[.string u.name,.slice x1 u.uses.length y1,.int .i64 u.data,.slice x2 u.parts.length y2,.slice x3 u.main.length y3]] w fun e w'=>GenEnd w u e w'/\Below w.heap.size w w':=by
 by_cases hc:(Go.Lib.containsS u.uses u.name || !holdB u numS prtS)=true
 . exact Gen_err1 u x1 y1 x2 y2 x3 y3 w hU hc
 . simp only [Bool.not_eq_true,Bool.or_eq_false_iff] at hc
   exact Gen_ok u x1 y1 x2 y2 x3 y3 w hU hc.1 (by simpa using hc.2)
end Go.Proofs.YtndkhgakfodldaaGreatDoor

namespace Go.Proofs.YtndkhgakfodldaaGreatDoor
set_option maxRecDepth 100000
open Go.RowKit Go.Maps Go.WideMaps
set_option linter.unusedSimpArgs false
set_option linter.unusedVariables false
def Gi.ds (i:Gi):List D:=[.int i.op,.int i.a,.int i.b]
def gisD (l:List Gi):List D:=l.flatMap Gi.ds
def Gf.ds (f:Gf):List D:=[.int f.at_,.int f.kind,.int f.m]
def gfsD (l:List Gf):List D:=l.flatMap Gf.ds
def intD (l:List Int):List D:=l.map D.int
def Ob.ds (o:Ob):List D:=[.str o.name,.list o.uses.length (strsD o.uses),.int o.data,.list o.code.length (gisD o.code),.list o.fixes.length (gfsD o.fixes),.list o.entries.length (intD o.entries),.int o.main]
structure OvAt (w:World) (o:Ob) (x1:Option Addr) (x3:Option Addr) (x4:Option Addr) (x5:Option Addr):Prop where
 wn:o.name.size<=maxLen
 uses:DAt w Tt x1 o.uses.length (strsD o.uses)
 wd:(Lit.int .i64 o.data).wf=true
 code:DAt w Tt x3 o.code.length (gisD o.code)
 fixes:DAt w Tt x4 o.fixes.length (gfsD o.fixes)
 entries:DAt w Tt x5 o.entries.length (intD o.entries)
 wm:(Lit.int .i64 o.main).wf=true
theorem OvAt.later {w w':World} {o:Ob} {x1 x3 x4 x5:Option Addr} (h:OvAt w o x1 x3 x4 x5) (hb:Below w.heap.size w w'):OvAt w' o x1 x3 x4 x5:=
 ⟨h.wn,h.uses.later hb,h.wd,h.code.later hb,h.fixes.later hb,h.entries.later hb,h.wm⟩
def oMany (o:Ob):Bool:=decide (3<o.uses.length)||(decide (6<o.entries.length)||(decide (o.code.length<1)||decide (2048<o.code.length)))
def placeB (o:Ob) (x:Int):Bool:=decide (0<=x/\x<o.code.length)
theorem oName_any (s:ByteArray) (w:World) (hs:s.size<=maxLen) :
 Calls Tryz.prog 131 #[.string s] w fun e w'=>e = .returned (.bool (Lx.nameB s.data.toList))/\Below w.heap.size w w':=by
 have HK:Hid ((checkN [⟨1,0,s⟩] == 0)=Lx.nameB s.data.toList):=by rw [← okB_name];exact checkN_one ⟨1,0,s⟩ rfl
 have HC:Hid (∀ (w1:World) (n:Nat),n=w1.heap.size->Calls Tryz.prog 116 #[.slice (some ⟨n,0,none⟩) 1 1] (w1.alloc (.cells #[.int .i64 1,.int .i64 0,.string s] 184)) fun e w'=>e = .returned (.int .i64 (checkN [⟨1,0,s⟩]))/\Below w1.heap.size w1 w'):=
  fun w1 n hn=>by
   subst hn;refine (Check_any _ 1 [⟨1,0,s⟩] _ (tok_new ⟨1,0,s⟩ w1 hs) (by simp)).mono ?_;rintro e w' ⟨rfl,hb⟩;exact ⟨rfl,((Below.refl _ _).alloc (Nat.le_refl _) _).trans (hb.mono (by simp))⟩
 go_enter Tryz.func131,Tryz.ntmps131
 go_wp2_with (go_at_call 116;refine (HC.out _ _ (by simp)).mono ?_;rintro e w' ⟨rfl,hb⟩)
 go_ret;exact ⟨ret_bool HK.out,hb⟩
theorem oPlace_any (o:Ob) (s:ByteArray) (x1:Option Addr) (n1 y1:Nat) (d:Int) (x3:Option Addr) (y3:Nat) (x4:Option Addr) (n4 y4:Nat) (x5:Option Addr) (n5 y5:Nat) (m x:Int) (w:World) (hb:o.code.length<=17592186044416) :
 Calls Tryz.prog 132 #[.agg #[.string s,.slice x1 n1 y1,.int .i64 d,.slice x3 o.code.length y3,.slice x4 n4 y4,.slice x5 n5 y5,.int .i64 m],.int .i64 x] w fun e w'=>e = .returned (.bool (placeB o x))/\Below w.heap.size w w':=by
 by_cases t:0<=x
 . have HR:Hid (placeB o x=decide (x<o.code.length)):=by show _=_;unfold placeB;exact decide_eq_decide.2 ⟨fun h=>h.2,fun h=>⟨t,h⟩⟩
   go_enter Tryz.func132,Tryz.ntmps132;go_wp2_with fail;go_ret;exact ⟨ret_bool (by first | exact HR.out.symm | (rw [HR.out]<;>first | (simp;omega) | (simp [*];done))),al1 _ _⟩
 . have HR:Hid (placeB o x=false):=by show _=_;unfold placeB;exact decide_eq_false (fun h=>t h.1)
   have t':x<0:=by omega
   clear t;go_enter Tryz.func132,Tryz.ntmps132;go_wp2_with fail;go_ret;exact ⟨ret_bool (by first | exact HR.out.symm | (rw [HR.out]<;>first | (simp;omega) | (simp [*];done))),al1 _ _⟩
theorem oMany_any (o:Ob) (s:ByteArray) (x1:Option Addr) (y1:Nat) (d:Int) (x3:Option Addr) (y3:Nat) (x4:Option Addr) (n4 y4:Nat) (x5:Option Addr) (y5:Nat) (m:Int) (w:World) (h1:o.uses.length<=17592186044416) (h3:o.code.length<=17592186044416) (h5:o.entries.length<=17592186044416) :
 Calls Tryz.prog 81 #[.agg #[.string s,.slice x1 o.uses.length y1,.int .i64 d,.slice x3 o.code.length y3,.slice x4 n4 y4,.slice x5 o.entries.length y5,.int .i64 m]] w fun e w'=>e = .returned (.bool (oMany o))/\Below w.heap.size w w':=by
 have HR:Hid (oMany o=(decide (3<o.uses.length)||(decide (6<o.entries.length)||(decide (o.code.length<1)||decide (2048<o.code.length))))):=rfl
 by_cases t1:3<o.uses.length
 . have HT:Hid (oMany o=true):=by show _=_;rw [HR.out,decide_eq_true t1];rfl
   have t1':(3:Int)<o.uses.length:=by omega
   go_enter Tryz.func81,Tryz.ntmps81;go_wp2_with fail;go_ret;exact ⟨ret_bool (by first | exact HT.out.symm | (rw [HT.out]<;>first | (simp;omega) | (simp [*];done))),al1 _ _⟩
 by_cases t2:6<o.entries.length
 . have HT:Hid (oMany o=true):=by show _=_;rw [HR.out,decide_eq_true t2,decide_eq_false t1];rfl
   have t1':¬ (3:Int)<o.uses.length:=by omega
   have t2':(6:Int)<o.entries.length:=by omega
   go_enter Tryz.func81,Tryz.ntmps81;go_wp2_with fail;go_ret;exact ⟨ret_bool (by first | exact HT.out.symm | (rw [HT.out]<;>first | (simp;omega) | (simp [*];done))),al1 _ _⟩
 have t1':¬ (3:Int)<o.uses.length:=by omega
 have t2':¬ (6:Int)<o.entries.length:=by omega
 by_cases t3:o.code.length<1
 . have HT:Hid (oMany o=true):=by show _=_;rw [HR.out,decide_eq_true t3,decide_eq_false t1,decide_eq_false t2];rfl
   have t3':(o.code.length:Int)<1:=by omega
   clear t3;go_enter Tryz.func81,Tryz.ntmps81;go_wp2_with fail;go_ret;exact ⟨ret_bool (by first | exact HT.out.symm | (rw [HT.out]<;>first | (simp;omega) | (simp [*];done))),al1 _ _⟩
 . have HT:Hid (oMany o=decide (2048<o.code.length)):=by show _=_;rw [HR.out,decide_eq_false t3,decide_eq_false t1,decide_eq_false t2];rfl
   have t3':¬ (o.code.length:Int)<1:=by omega
   clear t3;go_enter Tryz.func81,Tryz.ntmps81;go_wp2_with fail;go_ret;exact ⟨ret_bool (by first | exact HT.out.symm | (rw [HT.out]<;>first | (simp;omega) | (simp [*];done))),al1 _ _⟩
end Go.Proofs.YtndkhgakfodldaaGreatDoor

namespace Go.Proofs.YtndkhgakfodldaaGreatDoor
set_option maxRecDepth 100000
open Go.RowKit Go.Maps Go.WideMaps
set_option linter.unusedSimpArgs false
set_option linter.unusedVariables false
structure GiAt (w:World) (b o:Nat) (x:Gi):Prop where
 lt:b<w.heap.size
 c0:w.cell? ⟨b,o,none⟩=some (.int .i64 x.op)
 c1:w.cell? ⟨b,o+1,none⟩=some (.int .i64 x.a)
 c2:w.cell? ⟨b,o+2,none⟩=some (.int .i64 x.b)
 w0:(Lit.int .i64 x.op).wf=true
 w1:(Lit.int .i64 x.a).wf=true
 w2:(Lit.int .i64 x.b).wf=true
theorem DAt.gi {w:World} {A:Nat->Prop} {a:Option Addr} {l:List Gi} (h:DAt w A a l.length (gisD l)) (i:Nat) (hi:i<l.length):∃ b off,a=some ⟨b,off,none⟩/\GiAt w b (off+i*3) l[i]:=by
 obtain ⟨b,off,ha,hb,hc⟩:=h.cell (by omega);generalize hx:l[i]=x;obtain ⟨op,a',b'⟩:=x
 have g:∀ j d,j<3->(Gi.mk op a' b').ds[j]? = some d->∃ v,w.cell? ⟨b,off+i*3+j,none⟩=some v/\DVal w A d v:=fun j d hj hd=>by
  rw [Nat.add_assoc];exact hc (i*3+j) d ((flat_get Gi.ds 3 (fun _=>rfl) l i hi j hj).trans (by rw [hx];exact hd))
 obtain ⟨v0,q0,d0⟩:=g 0 (.int op) (by omega) (by simp [Gi.ds]);obtain ⟨v1,q1,d1⟩:=g 1 (.int a') (by omega) (by simp [Gi.ds]);obtain ⟨v2,q2,d2⟩:=g 2 (.int b') (by omega) (by simp [Gi.ds]);obtain ⟨rfl,w0⟩:=dnum_of d0;obtain ⟨rfl,w1⟩:=dnum_of d1;obtain ⟨rfl,w2⟩:=dnum_of d2;exact ⟨b,off,ha,hb,q0,q1,q2,w0,w1,w2⟩
structure GfAt (w:World) (b o:Nat) (x:Gf):Prop where
 lt:b<w.heap.size
 c0:w.cell? ⟨b,o,none⟩=some (.int .i64 x.at_)
 c1:w.cell? ⟨b,o+1,none⟩=some (.int .i64 x.kind)
 c2:w.cell? ⟨b,o+2,none⟩=some (.int .i64 x.m)
 w0:(Lit.int .i64 x.at_).wf=true
 w1:(Lit.int .i64 x.kind).wf=true
 w2:(Lit.int .i64 x.m).wf=true
theorem DAt.gf {w:World} {A:Nat->Prop} {a:Option Addr} {l:List Gf} (h:DAt w A a l.length (gfsD l)) (i:Nat) (hi:i<l.length):∃ b off,a=some ⟨b,off,none⟩/\GfAt w b (off+i*3) l[i]:=by
 obtain ⟨b,off,ha,hb,hc⟩:=h.cell (by omega);generalize hx:l[i]=x;obtain ⟨op,a',b'⟩:=x
 have g:∀ j d,j<3->(Gf.mk op a' b').ds[j]? = some d->∃ v,w.cell? ⟨b,off+i*3+j,none⟩=some v/\DVal w A d v:=fun j d hj hd=>by
  rw [Nat.add_assoc];exact hc (i*3+j) d ((flat_get Gf.ds 3 (fun _=>rfl) l i hi j hj).trans (by rw [hx];exact hd))
 obtain ⟨v0,q0,d0⟩:=g 0 (.int op) (by omega) (by simp [Gf.ds]);obtain ⟨v1,q1,d1⟩:=g 1 (.int a') (by omega) (by simp [Gf.ds]);obtain ⟨v2,q2,d2⟩:=g 2 (.int b') (by omega) (by simp [Gf.ds]);obtain ⟨rfl,w0⟩:=dnum_of d0;obtain ⟨rfl,w1⟩:=dnum_of d1;obtain ⟨rfl,w2⟩:=dnum_of d2;exact ⟨b,off,ha,hb,q0,q1,q2,w0,w1,w2⟩
theorem DAt.num {w:World} {A:Nat->Prop} {a:Option Addr} {l:List Int} (h:DAt w A a l.length (intD l)) (i:Nat) (hi:i<l.length):∃ b off,a=some ⟨b,off,none⟩/\b<w.heap.size/\w.cell? ⟨b,off+i,none⟩=some (.int .i64 l[i])/\(Lit.int .i64 l[i]).wf=true:=by
 obtain ⟨b,off,ha,hb,hc⟩:=h.cell (by omega);obtain ⟨v0,q0,d0⟩:=hc i (.int l[i]) (by simp [intD,hi]);obtain ⟨rfl,w0⟩:=dnum_of d0;exact ⟨b,off,ha,hb,q0,w0⟩
def okF (a far m uses:Int):Bool:=decide (0<=a)&&(decide (a<=far)&&(decide (0<=m)&&decide (m<=uses)))
def aAt (o:Ob) (x:Int):Int:=match o.code[x.toNat]? with | some i=>i.a | none=>0
def fixB (o:Ob) (f:Gf):Bool:=
 if f.kind=1 then okF (aAt o f.at_) o.code.length f.m 0
 else if f.kind=2\/f.kind=3 then okF (aAt o f.at_) 2048 f.m o.uses.length
 else false
end Go.Proofs.YtndkhgakfodldaaGreatDoor

namespace Go.Proofs.YtndkhgakfodldaaGreatDoor
open Go.RowKit Go.Maps Go.WideMaps
def allTo (n:Nat) (q:Nat->Bool):Bool:=(List.range n).all q
theorem allTo_true {n:Nat} {q:Nat->Bool}:allTo n q=true↔∀ i,i<n->q i=true:=by simp [allTo]
theorem allTo_false {n:Nat} {q:Nat->Bool} {i:Nat} (h:i<n) (hq:q i=false):allTo n q=false:=by
 cases e:allTo n q with
 | false=>rfl
 | true=>rw [allTo_true.1 e i h] at hq;cases hq
theorem upto_succ {q:Nat->Bool} {j:Nat} (h:∀ k,k<j->q k=true) (hq:q j=true):∀ k,k<j+1->q k=true:=fun k hk=>by
 rcases Nat.lt_or_ge k j with h1 | h1
 . exact h k h1
 . obtain rfl:k=j:=by omega
   exact hq
theorem str_beq (a b:ByteArray):(a.toList == b.toList)=decide (a=b):=by
 rw [Bool.eq_iff_iff];simp only [beq_iff_eq,decide_eq_true_eq]
 constructor
 . intro h
   rw [Lib.toList_data,Lib.toList_data] at h;exact bytes_inj h
 . rintro rfl;rfl
def opB (i:Gi):Bool:=decide (1<=i.op/\i.op<=22)
def opAt (o:Ob) (j:Nat):Bool:=match o.code[j]? with | some i=>opB i | none=>true
def entAt (o:Ob) (j:Nat):Bool:=match o.entries[j]? with | some x=>placeB o x | none=>true
def dataB (o:Ob):Bool:=placeB o o.main&&decide (0<=o.data/\o.data<=512)
def codeB (o:Ob):Bool:=allTo o.code.length (opAt o)&&(allTo o.entries.length (entAt o)&&dataB o)
def useAt (o:Ob) (i:Nat):Bool:=match o.uses[i]? with | some x=>Lx.nameB x.data.toList&&(!decide (x=o.name) && !Go.Lib.containsS (o.uses.take i) x) | none=>true
def namesB (o:Ob):Bool:=Lx.nameB o.name.data.toList&&allTo o.uses.length (useAt o)
def lastAt (o:Ob):Nat->Int
 | 0=>-1
 | j+1=>match o.fixes[j]? with | some f=>f.at_ | none=>-1
def fixAt (o:Ob) (j:Nat):Bool:=match o.fixes[j]? with | some f=>decide (lastAt o j<f.at_)&&(placeB o f.at_&&fixB o f) | none=>true
def fixesB (o:Ob):Bool:=allTo o.fixes.length (fixAt o)
def oChk (o:Ob):Int:=if oMany o=true then 2 else if (namesB o&&(codeB o&&fixesB o))=true then 0 else 1
end Go.Proofs.YtndkhgakfodldaaGreatDoor

namespace Go.Proofs.YtndkhgakfodldaaGreatDoor
set_option linter.unusedSimpArgs false
set_option linter.unusedVariables false
def inR (i:Gi) (n:Nat):Prop:=(1<=i.op/\i.op<=22)/\(0<=i.a/\i.a<=1099511627776+n)/\(0<=i.b/\i.b<=64)
theorem inR.mono {i:Gi} {n n':Nat} (h:inR i n) (hn:n<=n'):inR i n':=by unfold inR at *;omega
theorem inR_of (op a b:Int) (h:(1<=op/\op<=22)/\(0<=a/\a<=1099511627776)/\(0<=b/\b<=64)):inR ⟨op,a,b⟩ 0:=by unfold inR;simp only;omega
def fixR (us:Int) (J:Nat->Prop) (lo hi k:Nat) (f:Gf) (a:Int):Prop:=
 (f.kind=1/\f.m=0/\(J k\/((lo:Int)<=a/\a<=hi)))\/((f.kind=2\/f.kind=3)/\¬ J k/\(0<=a/\a<=2048)/\(0<=f.m/\f.m<=us))
theorem fixR.mono {us:Int} {J J':Nat->Prop} {lo hi hi' k:Nat} {f:Gf} {a:Int} (h:fixR us J lo hi k f a) (hJ:J' k↔J k) (hh:hi<=hi'):fixR us J' lo hi' k f a:=by
 rcases h with ⟨h1,h2,h3⟩ | ⟨h1,h2,h3⟩
 . refine Or.inl ⟨h1,h2,?_⟩
   rcases h3 with h3 | h3
   . exact Or.inl (hJ.2 h3)
   . exact Or.inr (by omega)
 . exact Or.inr ⟨h1,fun h=>h2 (hJ.1 h),h3⟩
structure Adds (us:Int) (J:Nat->Prop) (s t:Wrt):Prop where
 le:s.code.length<=t.code.length
 pre:∀ k,k<s.code.length->t.code[k]? = s.code[k]?
 ins:∀ (k:Nat) (i:Gi),s.code.length<=k->t.code[k]? = some i->inR i t.code.length
 jb:∀ k,J k->s.code.length<=k/\k<t.code.length
 fx:∃ e,t.fixes=s.fixes++e/\e.Pairwise (fun f g=>f.at_<g.at_)/\∀ f ∈ e,∃ (k:Nat) (i:Gi),t.code[k]? = some i/\f.at_=(k:Int)/\s.code.length<=k/\fixR us J s.code.length t.code.length k f i.a
theorem lt_some {α:Type} {l:List α} {k:Nat} {x:α} (h:l[k]? = some x):k<l.length:=by
 rcases Nat.lt_or_ge k l.length with h1 | h1
 . exact h1
 . rw [List.getElem?_eq_none h1] at h;cases h
section
variable {us:Int} {J J':Nat->Prop} {s t u:Wrt}
theorem Adds.cong (h:Adds us J s t) (hJ:∀ k,J' k↔J k):Adds us J' s t:=by
 obtain rfl:J'=J:=funext fun k=>propext (hJ k)
 exact h
theorem Adds.refl (s:Wrt):Adds us (fun _=>False) s s:=
 ⟨Nat.le_refl _,fun _ _=>rfl,fun k i h1 h2=>by have:=lt_some h2;omega,fun _ h=>h.elim,[],by simp,List.Pairwise.nil,fun f hf=>by cases hf⟩
theorem Adds.snoc (h:Adds us J s t) (i:Gi) (hi:inR i 0\/inR i (t.code.length+1)) (hJ:∀ k,k<t.code.length->(J' k↔J k)) (hJb:∀ k,J' k->s.code.length<=k/\k<=t.code.length) (e':List Gf)
 (he':e'=[]\/∃ f,e'=[f]/\f.at_=(t.code.length:Int)/\fixR us J' s.code.length (t.code.length+1) t.code.length f i.a):Adds us J' s ⟨t.code++[i],t.fixes++e'⟩:=by
 obtain ⟨e,he,hp,hf⟩:=h.fx;have hl:=h.le
 have hlen:(t.code++[i]).length=t.code.length+1:=by simp
 have old:∀ k,k<t.code.length->(t.code++[i])[k]? = t.code[k]?:=fun k hk=>List.getElem?_append_left hk
 have new:(t.code++[i])[t.code.length]? = some i:=by simp
 have hi':inR i (t.code.length+1):=by rcases hi with h1 | h1;exact h1.mono (Nat.zero_le _);exact h1
 refine ⟨by simp only [hlen];omega,fun k hk=>(old k (by omega)).trans (h.pre k hk),fun k x hk hx=>?_,fun k hk=>by have:=hJb k hk;simp only [hlen];omega,e++e',by simp only [he,List.append_assoc],?_,fun f hfm=>?_⟩
 . simp only [hlen]
   have hx':=lt_some hx;rw [hlen] at hx'
   rcases Nat.lt_or_ge k t.code.length with h1 | h1
   . exact (h.ins k x hk ((old k h1).symm.trans hx)).mono (by omega)
   . obtain rfl:k=t.code.length:=by omega
     obtain rfl:i=x:=by rw [new] at hx;exact Option.some.inj hx
     exact hi'
 . refine List.pairwise_append.2 ⟨hp,?_,fun f hfm g hg=>?_⟩
   . rcases he' with rfl | ⟨f,rfl,_⟩
     . exact List.Pairwise.nil
     . exact List.pairwise_singleton ..
   . obtain ⟨k,x,hx,hk,_⟩:=hf f hfm
     have:=lt_some hx
     rcases he' with rfl | ⟨f',rfl,ha,_⟩
     . cases hg
     . rw [List.mem_singleton] at hg;subst hg;omega
 . rcases List.mem_append.1 hfm with h1 | h1
   . obtain ⟨k,x,hx,hk,hs,hr⟩:=hf f h1
     have hkl:=lt_some hx;exact ⟨k,x,(old k hkl).trans hx,hk,hs,hr.mono (hJ k hkl) (by simp only [hlen];omega)⟩
   . rcases he' with rfl | ⟨f',rfl,ha,hr⟩
     . cases h1
     . rw [List.mem_singleton] at h1;subst h1
       exact ⟨t.code.length,i,new,ha,hl,by simp only [hlen];exact hr⟩
theorem Adds.put (h:Adds us J s t) (op a b:Int) (hi:(1<=op/\op<=22)/\(0<=a/\a<=1099511627776)/\(0<=b/\b<=64)):Adds us J s (putW op a b t):=by
 have:=h.snoc (J':=J) ⟨op,a,b⟩ (Or.inl (inR_of _ _ _ hi)) (fun _ _=>Iff.rfl) (fun k hk=>by have:=h.jb k hk;omega) [] (Or.inl rfl);rw [List.append_nil] at this;exact this
theorem Adds.fix (h:Adds us J s t) (kind m op a b:Int) (hk:kind=2\/kind=3) (hi:(1<=op/\op<=22)/\(0<=a/\a<=2048)/\(0<=b/\b<=64)) (hm:0<=m/\m<=us):Adds us J s (fixW kind m ⟨op,a,b⟩ t):=
 h.snoc (J':=J) ⟨op,a,b⟩ (Or.inl (inR_of _ _ _ (by omega))) (fun _ _=>Iff.rfl) (fun k hk=>by have:=h.jb k hk;omega) [⟨t.code.length,kind,m⟩]
  (Or.inr ⟨_,rfl,rfl,Or.inr ⟨hk,fun hj=>by have:=(h.jb _ hj).2;omega,hi.2.1,hm⟩⟩)
theorem Adds.jump (h:Adds us J s t) (op:Int) (ho:1<=op/\op<=22):Adds us (fun x=>J x\/x=t.code.length) s (jmpW op 0 t):=
 h.snoc ⟨op,0,0⟩ (Or.inl (inR_of _ _ _ (by omega))) (fun k hk=>⟨fun h=>h.elim id (fun e=>by omega),Or.inl⟩) (fun k hk=>by rcases hk with hk | rfl;have:=h.jb k hk;omega;exact ⟨h.le,Nat.le_refl _⟩) [⟨t.code.length,1,0⟩]
  (Or.inr ⟨_,rfl,rfl,Or.inl ⟨rfl,rfl,Or.inl (Or.inr rfl)⟩⟩)
theorem Adds.back (h:Adds us J s t) (op:Int) (ho:1<=op/\op<=22):Adds us J s (jmpW op s.code.length t):=
 have hl:=h.le
 h.snoc (J':=J) ⟨op,s.code.length,0⟩ (Or.inr (by unfold inR;simp only;omega)) (fun _ _=>Iff.rfl) (fun k hk=>by have:=h.jb k hk;omega) [⟨t.code.length,1,0⟩]
  (Or.inr ⟨_,rfl,rfl,Or.inl ⟨rfl,rfl,Or.inr (by simp only;omega)⟩⟩)
theorem land_ne (t:Wrt) {j k:Nat} (h:j≠k):(landW k t).code[j]? = t.code[j]?:=by
 simp only [landW,List.getElem?_modify];rw [show (fun a=>if k=j then setA (t.code.length:Int) a else a)=id from funext fun a=>if_neg (fun e=>h e.symm)];simp
theorem land_eq (t:Wrt) {k:Nat} {i:Gi} (h:t.code[k]? = some i):(landW k t).code[k]? = some (setA t.code.length i):=by
 simp only [landW,List.getElem?_modify,h];simp
theorem Adds.land (h:Adds us J s t) {k:Nat} (hk:J k):Adds us (fun x=>J x/\x≠k) s (landW k t):=by
 obtain ⟨e,he,hp,hf⟩:=h.fx;have hl:=h.le;have hkb:=h.jb k hk;refine ⟨by rw [landW_len];exact hl,fun j hj=>(land_ne t (by omega)).trans (h.pre j hj),fun j i hj hi=>?_,fun j hj=>by rw [landW_len];exact h.jb j hj.1,e,he,hp,fun f hfm=>?_⟩
 . rw [landW_len]
   by_cases e:j=k
   . subst e
     have hg:t.code[j]? = some t.code[j]:=List.getElem?_eq_getElem hkb.2;rw [land_eq t hg] at hi;obtain rfl:=Option.some.inj hi;have:=h.ins j _ hj hg;unfold inR at this ⊢;simp only [setA];omega
   . rw [land_ne t e] at hi;exact h.ins j i hj hi
 . obtain ⟨j,i,hi,ha,hs,hr⟩:=hf f hfm
   rw [landW_len]
   by_cases e:j=k
   . subst e
     refine ⟨j,_,land_eq t hi,ha,hs,?_⟩
     rcases hr with ⟨h1,h2,_⟩ | ⟨_,h2,_⟩
     . exact Or.inl ⟨h1,h2,Or.inr (by simp only [setA];omega)⟩
     . exact absurd hk h2
   . exact ⟨j,i,(land_ne t e).trans hi,ha,hs,hr.mono ⟨fun h=>h.1,fun h=>⟨h,e⟩⟩ (Nat.le_refl _)⟩
theorem Adds.then (h:Adds us J s t) (g:Adds us (fun _=>False) t u):Adds us J s u:=by
 obtain ⟨e,he,hp,hf⟩:=h.fx;obtain ⟨e',he',hp',hf'⟩:=g.fx;have hl:=h.le;have gl:=g.le;refine ⟨by omega,fun k hk=>(g.pre k (by omega)).trans (h.pre k hk),fun k i hk hi=>?_,fun k hk=>by have:=h.jb k hk;omega,e++e',by rw [he',he,List.append_assoc],?_,fun f hfm=>?_⟩
 . rcases Nat.lt_or_ge k t.code.length with h1 | h1
   . exact (h.ins k i hk ((g.pre k h1).symm.trans hi)).mono gl
   . exact g.ins k i h1 hi
 . refine List.pairwise_append.2 ⟨hp,hp',fun f hfm x hx=>?_⟩
   obtain ⟨k,i,hi,ha,_⟩:=hf f hfm;obtain ⟨k',i',hi',ha',hs',_⟩:=hf' x hx;have:=lt_some hi;omega
 . rcases List.mem_append.1 hfm with h1 | h1
   . obtain ⟨k,i,hi,ha,hs,hr⟩:=hf f h1
     exact ⟨k,i,(g.pre k (lt_some hi)).trans hi,ha,hs,hr.mono Iff.rfl gl⟩
   . obtain ⟨k,i,hi,ha,hs,hr⟩:=hf' f h1
     refine ⟨k,i,hi,ha,by omega,?_⟩
     rcases hr with ⟨h1,h2,h3⟩ | ⟨h1,h2,h3⟩
     . exact Or.inl ⟨h1,h2,Or.inr (by rcases h3 with h3 | h3;exact h3.elim;omega)⟩
     . exact Or.inr ⟨h1,fun hj=>by have:=(h.jb k hj).2;omega,h3⟩
end
def GoodW (us:Int) (f:Wrt->Wrt):Prop:=∀ s,Adds us (fun _=>False) s (f s)
theorem good_nds {us:Int} {f:Nd->Wrt->Wrt}:∀ {l:List Nd},(∀ y ∈ l,GoodW us (f y))->GoodW us (ndsW f l)
 | [],_,s=>Adds.refl s
 | x :: r,h,s=>(h x (List.mem_cons_self ..) s).then (good_nds (fun y hy=>h y (List.mem_cons_of_mem _ hy)) (f x s))
theorem good_blk {us:Int} {f:Ac->Wrt->Wrt}:∀ {l:List Ac},(∀ y ∈ l,GoodW us (f y))->GoodW us (blkW f l)
 | [],_,s=>Adds.refl s
 | x :: r,h,s=>by
   show Adds us _ s (blkW f r (if fullW s=true then s else f x s));have h2:=good_blk (l:=r) (fun y hy=>h y (List.mem_cons_of_mem _ hy));split
   . exact h2 s
   . exact (h x (List.mem_cons_self ..) s).then (h2 _)
theorem good_and {us:Int} {f g:Wrt->Wrt} (hf:GoodW us f) (hg:GoodW us g):GoodW us (andW f g):=fun s=>by
 have h3:=((hf s).jump 12 (by decide)).then (hg _);have hl:=(hg (jmpW 12 0 (f s))).le;rw [jmpW_len] at hl;have h5:=(h3.put 22 0 0 (by decide)).jump 11 (by decide);have h7:=(h5.land (k:=(f s).code.length) (Or.inl (Or.inr rfl))).put 1 0 0 (by decide);have h8:=h7.land (k:=(putW 22 0 0 (g (jmpW 12 0 (f s)))).code.length) ⟨Or.inr rfl,by rw [putW_len];omega⟩;exact h8.cong (fun k=>⟨False.elim,fun h=>by simp only [false_or] at h;omega⟩)
theorem good_or {us:Int} {f g:Wrt->Wrt} (hf:GoodW us f) (hg:GoodW us g):GoodW us (orW f g):=fun s=>by
 have h5:=(((hf s).jump 12 (by decide)).put 1 1 0 (by decide)).jump 11 (by decide);have h6:=h5.land (k:=(f s).code.length) (Or.inl (Or.inr rfl));have h7:=(h6.then (hg _)).put 22 0 0 (by decide);have h8:=h7.land (k:=(putW 1 1 0 (jmpW 12 0 (f s))).code.length) ⟨Or.inr rfl,by rw [putW_len,jmpW_len];omega⟩;exact h8.cong (fun k=>⟨False.elim,fun h=>by simp only [false_or] at h;omega⟩)
theorem good_br {us:Int} {f g h:Wrt->Wrt} (hf:GoodW us f) (hg:GoodW us g) (hh:GoodW us h) (e:Bool):GoodW us (brW f g h e):=fun s=>by
 have h3:=((hf s).jump 12 (by decide)).then (hg _);have hl:=(hg (jmpW 12 0 (f s))).le;rw [jmpW_len] at hl;unfold brW;simp only;split
 . exact (h3.land (k:=(f s).code.length) (Or.inr rfl)).cong (fun k=>⟨False.elim,fun h=>by simp only [false_or] at h;omega⟩)
 . have h5:=(h3.jump 11 (by decide)).land (k:=(f s).code.length) (Or.inl (Or.inr rfl))
   have h8:=(h5.then (hh _)).land (k:=(g (jmpW 12 0 (f s))).code.length) ⟨Or.inr rfl,by omega⟩;exact h8.cong (fun k=>⟨False.elim,fun h=>by simp only [false_or] at h;omega⟩)
theorem good_wh {us:Int} {f g:Wrt->Wrt} (hf:GoodW us f) (hg:GoodW us g):GoodW us (whW f g):=fun s=>by
 have h3:=((((hf s).jump 12 (by decide)).put 16 0 0 (by decide)).then (hg _)).back 11 (by decide);exact (h3.land (k:=(f s).code.length) (Or.inr rfl)).cong (fun k=>⟨False.elim,fun h=>by simp only [false_or] at h;omega⟩)
structure Sane (c:Ck):Prop where
 hn:∀ m at_ n:Int,1<=n->numB c m at_ n=true->(0<=at_/\at_<=2048)/\(0<=m/\m<=c.uses)
 hp:∀ m at_ k:Int,prtB c m at_ k=true->(0<=at_/\at_<=2048)/\(0<=m/\m<=c.uses)
 hl:c.locals<=64
theorem good_nd {c:Ck} (hc:Sane c):∀ (k:Nat) (x:Nd),nodeA c x=true->ndsB c k x.args=true->GoodW c.uses (ndW (k+1) x):=by
 have key:∀ (k:Nat) (x:Nd),nodeA c x=true->(∀ y ∈ x.args,GoodW c.uses (ndW k y))->GoodW c.uses (ndW (k+1) x):=by
  intro k x hx hN s;obtain ⟨op,n,m,at_,args⟩:=x
  have hA:∀ i,GoodW c.uses (ndW k (argN args i)):=fun i s=>by
   by_cases hi:i<args.length
   . rw [argN_get _ _ hi];exact hN _ (List.getElem_mem hi) s
   . have:argN args i=nd0:=by simp [argN,List.getD_eq_getElem?_getD,List.getElem?_eq_none (Nat.le_of_not_lt hi)]
     rw [this]
     cases k with
     | zero=>exact Adds.refl s
     | succ k=>exact (Adds.refl s).put 10 0 0 (by decide)
  rw [ndW_succ];unfold ndStep
  by_cases e1:op=1
  . subst e1
    have hx':(decide (args.length=0)&&(decide (0<=n/\n<=1099511627775)&&(decide (m=0)&&decide (at_=0))))=true:=hx;simp only [Bool.and_eq_true,decide_eq_true_eq] at hx';rw [if_pos rfl];exact (Adds.refl s).put _ _ _ (by omega)
  rw [if_neg e1]
  by_cases e2:op=2
  . rw [if_pos e2];exact (Adds.refl s).put _ _ _ (by decide)
  rw [if_neg e2]
  by_cases e3:op=16
  . subst e3
    have:=hc.hl;have hx':(decide (args.length=0)&&(decide (n=0)&&(decide (m=0)&&locB c at_)))=true:=hx;simp only [locB,Bool.and_eq_true,decide_eq_true_eq] at hx';rw [if_pos rfl];exact (Adds.refl s).put _ _ _ (by omega)
  rw [if_neg e3]
  by_cases e4:op=3
  . subst e4
    have hx':(decide (args.length=0)&&(decide (n=0)&&numB c m at_ 1))=true:=hx;simp only [Bool.and_eq_true] at hx';rw [if_pos rfl];have:=hc.hn _ _ _ (by decide) hx'.2.2;exact (Adds.refl s).fix _ _ _ _ _ (Or.inr rfl) (by omega) this.2
  rw [if_neg e4]
  by_cases e5:op=4
  . subst e5
    have hx':(decide (args.length=1)&&(decide (1<=n/\n<=32)&&numB c m at_ n))=true:=hx;simp only [Bool.and_eq_true,decide_eq_true_eq] at hx';rw [if_pos rfl];have:=hc.hn _ _ _ hx'.2.1.1 hx'.2.2;exact ((hA 0 s).fix _ _ _ _ _ (Or.inr rfl) (by omega) this.2).put _ _ _ (by decide)
  rw [if_neg e5]
  by_cases e6:op=5
  . subst e6
    have hx':(decide (n=0)&&prtB c m at_ args.length)=true:=hx;simp only [Bool.and_eq_true] at hx';rw [if_pos rfl];have:=hc.hp _ _ _ hx'.2;exact (good_nds hN s).fix _ _ _ _ _ (Or.inl rfl) (by omega) this.2
  rw [if_neg e6];have hl:=nodeA_9 hx e1 e3 e4 e5 e6
  by_cases e7:op=6
  . rw [if_pos e7];exact (hA 0 s).put _ _ _ (by decide)
  rw [if_neg e7]
  by_cases e8:op=7
  . rw [if_pos e8];exact good_and (hA 0) (hA 1) s
  rw [if_neg e8]
  by_cases e9:op=8
  . rw [if_pos e9];exact good_or (hA 0) (hA 1) s
  rw [if_neg e9];refine (good_nds hN s).put _ _ _ ?_;unfold argsOf at hl;rw [if_neg e2,if_neg e7] at hl
  split at hl<;>omega
 intro k
 induction k with
 | zero=>intro x h1 h2;exact key 0 x h1 (fun y hy s=>Adds.refl s)
 | succ k ih=>
   intro x h1 h2;refine key (k+1) x h1 (fun y hy=>?_);rw [show ndsB c (k+1) x.args=x.args.all (fun x=>nodeA c x&&ndsB c k x.args) from rfl,List.all_eq_true] at h2;have h4:=h2 y hy;rw [Bool.and_eq_true] at h4;exact ih y h4.1 h4.2
theorem good_ac {c:Ck} (hc:Sane c):∀ (k:Nat) (l:List Ac),acsB c k l=true->∀ y ∈ l,GoodW c.uses (acW k y)
 | 0,l,h=>by simp [acsB] at h
 | k + 1,l,h=>fun y hy s=>by
   obtain ⟨h1,h2,h3,h4⟩:=acsB_in h hy;obtain ⟨op,n,m,at_,args,body,other⟩:=y;obtain ⟨⟨o1,o7⟩,l2,l1⟩:=actA_args h1;simp only [Ac.args,Ac.body,Ac.other] at h2 h3 h4
   have hN:∀ z ∈ args,GoodW c.uses (ndW 6 z):=fun z hz=>by
    rw [show ndsB c 6 args=args.all (fun x=>nodeA c x&&ndsB c 5 x.args) from rfl,List.all_eq_true] at h2;have h5:=h2 z hz;rw [Bool.and_eq_true] at h5;exact good_nd hc 5 z h5.1 h5.2
   have hA:∀ i,i<args.length->GoodW c.uses (ndW 6 (argN args i)):=fun i hi=>by
    rw [argN_get _ _ hi];exact hN _ (List.getElem_mem hi)
   have nil:∀ (q:List Ac),q.length=0->GoodW c.uses (blkW (acW k) q):=fun q hq s=>by
    rw [List.eq_nil_of_length_eq_zero hq];exact Adds.refl s
   have hB:GoodW c.uses (blkW (acW k) body):=by
    rcases h3 with h3 | h3
    . exact good_blk (good_ac hc k _ h3)
    . exact nil _ h3
   have hO:GoodW c.uses (blkW (acW k) other):=by
    rcases h4 with h4 | h4
    . exact good_blk (good_ac hc k _ h4)
    . exact nil _ h4
   rw [acW_succ];unfold acStep
   by_cases e3:op=3
   . subst e3
     have h1':(decide (n=0)&&prtB c m at_ args.length)=true:=h1;simp only [Bool.and_eq_true] at h1';have:=hc.hp _ _ _ h1'.2;simp only [show ¬ ((3:Int)=1) from by decide,show ¬ ((3:Int)=2) from by decide,if_true,if_false];exact ((good_nds hN s).fix _ _ _ _ _ (Or.inl rfl) (by omega) this.2).put _ _ _ (by decide)
   have hl0:0<args.length:=by
    by_cases e2:op=2
    . have:=l2 e2;omega
    . have:=l1 e2 e3;omega
   have h0:=hA 0 hl0
   by_cases e1:op=1
   . subst e1
     have h1':(decide (args.length=1)&&(decide (n=0)&&(if m = -1 then locB c at_ else numB c m at_ 1)))=true:=h1;rw [Bool.and_eq_true,Bool.and_eq_true] at h1';have h5:=h1'.2.2;rw [if_pos rfl];unfold setW;split
     . rename_i em
       rw [if_pos em] at h5;have:=hc.hl;simp only [locB,decide_eq_true_eq] at h5;exact (h0 s).put _ _ _ (by omega)
     . rename_i em
       rw [if_neg em] at h5;have:=hc.hn _ _ _ (by decide) h5;exact (h0 s).fix _ _ _ _ _ (Or.inr rfl) (by omega) this.2
   rw [if_neg e1]
   by_cases e2:op=2
   . subst e2
     have h7:=hA 1 (by have:=l2 rfl;omega);have h1':(decide (args.length=2)&&(decide (1<=n/\n<=32)&&numB c m at_ n))=true:=h1;simp only [Bool.and_eq_true,decide_eq_true_eq] at h1';have:=hc.hn _ _ _ h1'.2.1.1 h1'.2.2;rw [if_pos rfl];exact (((h0 s).fix _ _ _ _ _ (Or.inr rfl) (by omega) this.2).then (h7 _)).put _ _ _ (by decide)
   rw [if_neg e2,if_neg e3]
   by_cases e4:op=4
   . rw [if_pos e4];exact good_br h0 hB hO _ s
   rw [if_neg e4]
   by_cases e5:op=5
   . rw [if_pos e5];exact good_wh h0 hB s
   rw [if_neg e5]
   by_cases e6:op=6
   . rw [if_pos e6];exact (h0 s).put _ _ _ (by decide)
   rw [if_neg e6]
   by_cases e7:op=7
   . rw [if_pos e7];exact (h0 s).put _ _ _ (by decide)
   rw [if_neg e7];exact Adds.refl s
theorem good_body {c:Ck} (hc:Sane c) (p:Pt) (h:acsB c 6 p.body=true) (hp:ptB p=true) (s:Wrt):∃ t,Adds c.uses (fun _=>False) s t/\s.code.length<t.code.length/\bodyW p s=putW 15 0 0 (putW 1 0 0 t):=by
 unfold ptB at hp;simp only [Bool.and_eq_true,decide_eq_true_eq] at hp;have h1:=(Adds.refl (us:=c.uses) s).put 14 p.params p.locals (by omega);have h2:=good_blk (good_ac hc 6 p.body h) (putW 14 p.params p.locals s);have:=h2.le;rw [putW_len] at this;exact ⟨_,h1.then h2,by omega,rfl⟩
end Go.Proofs.YtndkhgakfodldaaGreatDoor

namespace Go.Proofs.YtndkhgakfodldaaGreatDoor
set_option linter.unusedSimpArgs false
set_option linter.unusedVariables false
def Home (B:List Nat) (s:Wrt):Prop:=(∀ b ∈ B,b<=s.code.length)/\∀ f ∈ s.fixes,f.kind=1->∃ (k:Nat) (i:Gi),s.code[k]? = some i/\f.at_=(k:Int)/\i.a<s.code.length/\∀ b ∈ B,(k<b->i.a<b)/\(b<=k->(b:Int)<=i.a)
theorem Home.mem {B B':List Nat} {s:Wrt} (h:Home B s) (hB:∀ b ∈ B',b ∈ B):Home B' s:=
 ⟨fun b hb=>h.1 b (hB b hb),fun f hf hk=>by
  obtain ⟨k,i,h1,h2,h3,h4⟩:=h.2 f hf hk
  exact ⟨k,i,h1,h2,h3,fun b hb=>h4 b (hB b hb)⟩⟩
theorem Home.more {B:List Nat} {s:Wrt} (h:Home B s):Home (s.code.length :: B) s:=by
 refine ⟨fun b hb=>?_,fun f hf hk=>?_⟩
 . rcases List.mem_cons.1 hb with rfl | hb
   . exact Nat.le_refl _
   . exact h.1 b hb
 . obtain ⟨k,i,h1,h2,h3,h4⟩:=h.2 f hf hk
   refine ⟨k,i,h1,h2,h3,fun b hb=>?_⟩
   rcases List.mem_cons.1 hb with rfl | hb
   . have:=lt_some h1
     exact ⟨fun _=>h3,fun h=>by omega⟩
   . exact h4 b hb
theorem Home.body {us:Int} {B:List Nat} {s t:Wrt} (h:Home B s) (ha:Adds us (fun _=>False) s t):Home B (putW 15 0 0 (putW 1 0 0 t)):=by
 obtain ⟨e,he,_,hf⟩:=ha.fx;have hl:=ha.le
 have len:(putW 15 0 0 (putW 1 0 0 t)).code.length=t.code.length+2:=by rw [putW_len,putW_len]
 have old:∀ k,k<t.code.length->(putW 15 0 0 (putW 1 0 0 t)).code[k]? = t.code[k]?:=fun k hk=>by
  simp only [putW];rw [List.getElem?_append_left (by simp;omega),List.getElem?_append_left hk]
 refine ⟨fun b hb=>by have:=h.1 b hb;rw [len];omega,fun f hfm hk=>?_⟩
 have hfm':f ∈ s.fixes++e:=by rw [← he];exact hfm
 rw [len]
 rcases List.mem_append.1 hfm' with h1 | h1
 . obtain ⟨k,i,h1,h2,h3,h4⟩:=h.2 f h1 hk
   have hks:=lt_some h1;exact ⟨k,i,(old k (by omega)).trans ((ha.pre k hks).trans h1),h2,by omega,h4⟩
 . obtain ⟨k,i,h1,h2,h3,h4⟩:=hf f h1
   refine ⟨k,i,(old k (lt_some h1)).trans h1,h2,?_,fun b hb=>?_⟩
   all_goals rcases h4 with ⟨_,_,h5 | h5⟩ | ⟨h5,_⟩
   . exact h5.elim
   . omega
   . omega
   . exact h5.elim
   . have:=h.1 b hb
     exact ⟨fun _=>by omega,fun _=>by omega⟩
   . omega
theorem ck_sane {u:Un} (h:headB u=true) (lc:Int) (hl:lc<=64):Sane (ckOf u numS prtS lc):=by
 have h6:=headB_six h;have hd:=headB_data h;refine ⟨fun m at_ n hn h=>?_,fun m at_ k h=>?_,hl⟩
 . unfold numB at h
   split at h
   . rename_i e
     have h:0<=at_/\at_+n<=u.data:=of_decide_eq_true h;subst e;exact ⟨by omega,by omega,by simp only [ckOf];omega⟩
   . rw [Bool.and_eq_true] at h
     obtain ⟨h1,h2⟩:=h;have h1:1<=m/\m<=u.uses.length:=of_decide_eq_true h1;have h2:numS m at_ n=true:=h2;simp only [numS,Bool.or_eq_true,lieB,decide_eq_true_eq] at h2;exact ⟨by omega,by omega,by simp only [ckOf];omega⟩
 . unfold prtB at h
   split at h
   . rename_i e
     have h:hasP u.parts at_ k=true:=h;unfold hasP at h;rw [Bool.and_eq_true,decide_eq_true_eq] at h;obtain ⟨h1,h2⟩:=h
     cases hq:u.parts[at_.toNat]? with
     | none=>rw [hq] at h2;cases h2
     | some p=>
       have:=lt_some hq;subst e;exact ⟨by omega,by omega,by simp only [ckOf];omega⟩
   . rw [Bool.and_eq_true] at h
     obtain ⟨h1,h2⟩:=h;have h1:1<=m/\m<=u.uses.length:=of_decide_eq_true h1;have h2:prtS m at_ k=true:=h2;simp only [prtS,Bool.and_eq_true,decide_eq_true_eq] at h2;exact ⟨by omega,by omega,by simp only [ckOf];omega⟩
def startsTo (l:List Pt) (j:Nat):List Nat:=(List.range j).map (fun i=>(partsW (l.take i)).code.length)
theorem parts_grow {u:Un} (h:holdB u numS prtS=true):∀ j,j<=u.parts.length->Adds u.uses.length (fun _=>False) wr0 (partsW (u.parts.take j))/\Home (startsTo u.parts j) (partsW (u.parts.take j))
 | 0,_=>⟨Adds.refl _,fun b hb=>by simp [startsTo] at hb,fun f hf=>by cases hf⟩
 | j + 1,hj=>by
   obtain ⟨h1,h2⟩:=parts_grow h j (by omega);obtain ⟨hp,_,hh⟩:=holdB_parts h
   have hpt:ptB u.parts[j]=true:=by
    unfold headB at hh;simp only [Bool.and_eq_true,List.all_eq_true] at hh;exact hh.2.1 _ (List.getElem_mem (by omega))
   have hlc:u.parts[j].params+u.parts[j].locals<=64:=by
    have:=hpt;unfold ptB at this;simp only [Bool.and_eq_true,decide_eq_true_eq] at this;omega
   obtain ⟨t,ha,_,hb⟩:=good_body (ck_sane hh _ hlc) u.parts[j] (hp _ (List.getElem_mem (by omega))) hpt (partsW (u.parts.take j));rw [partsW_take _ _ (by omega),hb];refine ⟨((h1.then ha).put 1 0 0 (by decide)).put 15 0 0 (by decide),(h2.more.body ha).mem (fun b hb=>?_)⟩;unfold startsTo at hb;rw [List.range_succ,List.map_append,List.mem_append] at hb
   rcases hb with hb | hb
   . exact List.mem_cons_of_mem _ hb
   . simp only [List.map_cons,List.map_nil,List.mem_singleton] at hb
     subst hb;exact List.mem_cons_self ..
theorem gen_grow {u:Un} (h:holdB u numS prtS=true):Adds u.uses.length (fun _=>False) wr0 (genS u)/\Home ((partsW u.parts).code.length :: startsTo u.parts u.parts.length) (genS u)/\(partsW u.parts).code.length<(genS u).code.length/\∀ b ∈ startsTo u.parts u.parts.length,b<=(partsW u.parts).code.length:=by
 obtain ⟨h1,h2⟩:=parts_grow h _ (Nat.le_refl _);rw [List.take_length] at h1 h2;obtain ⟨_,hm,hh⟩:=holdB_parts h;obtain ⟨t,ha,hl,hb⟩:=good_body (ck_sane hh 0 (by decide)) ⟨0,0,u.main⟩ hm rfl (partsW u.parts);unfold genS;rw [hb];refine ⟨((h1.then ha).put 1 0 0 (by decide)).put 15 0 0 (by decide),h2.more.body ha,?_,h2.1⟩;rw [putW_len,putW_len];omega
theorem ents_starts (l:List Pt):entsW l=(startsTo l l.length).map (fun n:Nat=>(n:Int)):=by
 unfold entsW startsTo;rw [List.map_map]
 rfl
end Go.Proofs.YtndkhgakfodldaaGreatDoor

namespace Go.Proofs.YtndkhgakfodldaaGreatDoor
set_option maxRecDepth 100000
set_option maxHeartbeats 3200000
open Go.RowKit Go.Maps Go.WideMaps
set_option linter.unusedSimpArgs false
set_option linter.unusedVariables false
theorem codeB_eq (o:Ob):codeB o=(allTo o.code.length (opAt o)&&(allTo o.entries.length (entAt o)&&dataB o)):=rfl
theorem codeHolds_any (o:Ob) (x1:Option Addr) (y1:Nat) (x3:Option Addr) (y3:Nat) (x4:Option Addr) (y4:Nat) (x5:Option Addr) (y5:Nat) (w:World) (hO:OvAt w o x1 x3 x4 x5) :
 Calls Tryz.prog 83 #[.agg #[.string o.name,.slice x1 o.uses.length y1,.int .i64 o.data,.slice x3 o.code.length y3,.slice x4 o.fixes.length y4,.slice x5 o.entries.length y5,.int .i64 o.main]] w fun e w'=>e = .returned (.bool (codeB o))/\Below w.heap.size w w':=by
 have hb3:=hO.code.bound;have hb5:=hO.entries.bound;have HO:=hid hO;have HP:=hid (fun (x:Int) (W:World)=>oPlace_any o o.name x1 o.uses.length y1 o.data x3 y3 x4 o.fixes.length y4 x5 o.entries.length y5 o.main x W hb3);clear hO;go_enter Tryz.func83,Tryz.ntmps83;go_wp2_with fail
 go_loopw [10] (fun i wr=>∃ j:Nat,j<=o.code.length/\i = .int .i64 j/\(∀ k,k<j->opAt o k=true)/\Below w.heap.size w wr/\wr.heap[w.heap.size]? = some (.cells #[.string o.name,.slice x1 o.uses.length y1,.int .i64 o.data,.slice x3 o.code.length y3,.slice x4 o.fixes.length y4,.slice x5 o.entries.length y5,.int .i64 o.main] 62)) (fun i _=>o.code.length - (intOf i).toNat)
 case atStart=>exact ⟨0,Nat.zero_le _,rfl,fun k hk=>absurd hk (Nat.not_lt_zero k),al1 _ _,heap_newP w (.cells #[.string o.name,.slice x1 o.uses.length y1,.int .i64 o.data,.slice x3 o.code.length y3,.slice x4 o.fixes.length y4,.slice x5 o.entries.length y5,.int .i64 o.main] 62)⟩
 case round=>
  obtain ⟨j,hj,rfl,hall,hb,hB⟩:=hrel;obtain ⟨q0,q1,q2,q3,q4,q5,q6,_⟩:=cells7 hB;have qz:=lt_of_heap hB;have HB:=hid hb;have HX:=hid hB;have HL:=hid hall;clear hall hB hb
  by_cases hlt:j<o.code.length
  . obtain ⟨b,off,rfl,hx⟩:=(HO.out.later HB.out).code.gi j hlt
    have HE:Hid (opAt o j=opB o.code[j]):=by show _=_;unfold opAt;rw [List.getElem?_eq_getElem hlt]
    have HF:=hid (fun (h:opB o.code[j]=false)=>(by rw [codeB_eq,allTo_false hlt (HE.out.trans h)];rfl:codeB o=false));have HT:=hid (fun (h:opB o.code[j]=true)=>upto_succ HL.out (HE.out.trans h));obtain ⟨hbl,p0,p1,p2,_,_,_⟩:=hx;generalize o.code[j]=p at *
    by_cases t1:p.op<1
    . have HF':=hid (HF.out (by unfold opB;exact decide_eq_false (by omega)))
      go_wp2_with fail;go_ret;exact ⟨ret_bool (by first | exact HF'.out.symm | (rw [HF'.out]<;>first | (simp;omega) | (simp [*];done))),thenB HB.out (al1 _ _)⟩
    by_cases t2:22<p.op
    . have HF':=hid (HF.out (by unfold opB;exact decide_eq_false (by omega)))
      have t1':1<=p.op:=by omega
      clear t1;go_wp2_with fail;go_ret;exact ⟨ret_bool (by first | exact HF'.out.symm | (rw [HF'.out]<;>first | (simp;omega) | (simp [*];done))),thenB HB.out (al1 _ _)⟩
    have HT':=hid (HT.out (by unfold opB;exact decide_eq_true (by omega)))
    have t1':1<=p.op:=by omega
    have t2':p.op<=22:=by omega
    clear t1 t2;go_wp2_with fail;go_roundw
    case rel=>exact ⟨j+1,by omega,by go_num,HT'.out,thenB HB.out (al1 _ _),heap_old HX.out⟩
    case measure=>simp [intOf];omega
  . obtain rfl:j=o.code.length:=by omega
    have HC:Hid (codeB o=(allTo o.entries.length (entAt o)&&dataB o)):=by show _=_;rw [codeB_eq,allTo_true.2 HL.out];rfl
    go_wp2_with fail
    go_loopw [26] (fun i wr=>∃ j:Nat,j<=o.entries.length/\i = .int .i64 j/\(∀ k,k<j->entAt o k=true)/\Below w.heap.size w wr/\wr.heap[w.heap.size]? = some (.cells #[.string o.name,.slice x1 o.uses.length y1,.int .i64 o.data,.slice x3 o.code.length y3,.slice x4 o.fixes.length y4,.slice x5 o.entries.length y5,.int .i64 o.main] 62)) (fun i _=>o.entries.length - (intOf i).toNat)
    case atStart=>exact ⟨0,Nat.zero_le _,rfl,fun k hk=>absurd hk (Nat.not_lt_zero k),HB.out,HX.out⟩
    case round=>
     clear q0 q1 q2 q3 q4 q5 q6 qz;obtain ⟨j,hj,rfl,hall,hb,hB⟩:=hrel;obtain ⟨q0,q1,q2,q3,q4,q5,q6,_⟩:=cells7 hB;have qz:=lt_of_heap hB;have HB:=hid hb;have HX:=hid hB;have HL:=hid hall;clear hall hB hb
     by_cases hlt:j<o.entries.length
     . obtain ⟨b,off,rfl,hbl,p0,_⟩:=(HO.out.later HB.out).entries.num j hlt
       have HE:Hid (entAt o j=placeB o o.entries[j]):=by show _=_;unfold entAt;rw [List.getElem?_eq_getElem hlt]
       have HF:=hid (fun (h:placeB o o.entries[j]=false)=>(by rw [HC.out,allTo_false hlt (HE.out.trans h)];rfl:codeB o=false));have HT:=hid (fun (h:placeB o o.entries[j]=true)=>upto_succ HL.out (HE.out.trans h));generalize o.entries[j]=p at *;go_wp2_with fail;refine (HP.out p _).mono ?_;rintro e w1 ⟨rfl,hb1⟩;have HB1:=hid (thenB HB.out hb1);have HX1:=hid ((hb1.block _ qz).trans HX.out);clear q0 q1 q2 q3 q4 q5 q6 qz hb1
       cases hp:placeB o p with
       | false=>
         have HF':=hid (HF.out hp);go_wp2_with fail;go_ret;exact ⟨ret_bool (by first | exact HF'.out.symm | (rw [HF'.out]<;>first | (simp;omega) | (simp [*];done))),HB1.out⟩
       | true=>
         have HT':=hid (HT.out hp);go_wp2_with fail;go_roundw
         case rel=>exact ⟨j+1,by omega,by go_num,HT'.out,HB1.out,HX1.out⟩
         case measure=>simp [intOf];omega
     . obtain rfl:j=o.entries.length:=by omega
       have HD:Hid (codeB o=(placeB o o.main&&decide (0<=o.data/\o.data<=512))):=by show _=_;rw [HC.out,allTo_true.2 HL.out];rfl
       go_wp2_with fail;refine (HP.out o.main _).mono ?_;rintro e w1 ⟨rfl,hb1⟩;have HB1:=hid (thenB HB.out hb1);have HX1:=hid ((hb1.block _ qz).trans HX.out);clear q0 q1 q2 q3 q4 q5 q6 qz hb1;obtain ⟨q0,q1,q2,q3,q4,q5,q6,_⟩:=cells7 HX1.out;have qz:=lt_of_heap HX1.out
       cases hp:placeB o o.main with
       | false=>
         have HR:Hid (codeB o=false):=by show _=_;rw [HD.out,hp];rfl
         go_wp2_with fail;go_ret;exact ⟨ret_bool (by first | exact HR.out.symm | (rw [HR.out]<;>first | (simp;omega) | (simp [*];done))),HB1.out⟩
       | true=>
         by_cases t1:0<=o.data
         . have HR:Hid (codeB o=decide (o.data<=512)):=by show _=_;rw [HD.out,hp,Bool.true_and];exact decide_eq_decide.2 ⟨fun h=>h.2,fun h=>⟨t1,h⟩⟩
           go_wp2_with fail;go_ret;exact ⟨ret_bool (by first | exact HR.out.symm | (rw [HR.out]<;>first | (simp;omega) | (simp [*];done))),HB1.out⟩
         . have HR:Hid (codeB o=false):=by show _=_;rw [HD.out,hp,Bool.true_and];exact decide_eq_false (fun h=>t1 h.1)
           have t1':o.data<0:=by omega
           clear t1;go_wp2_with fail;go_ret;exact ⟨ret_bool (by first | exact HR.out.symm | (rw [HR.out]<;>first | (simp;omega) | (simp [*];done))),HB1.out⟩
end Go.Proofs.YtndkhgakfodldaaGreatDoor
