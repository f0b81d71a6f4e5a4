import Derived.Test.YtndkhgakfodldaaGreatDoorBc
import Derived.Test.YtndkhgakfodldaaGreatDoorUt
namespace Go.Proofs.YtndkhgakfodldaaGreatDoor
set_option maxRecDepth 100000
set_option maxHeartbeats 1600000
open Go.RowKit Go.Shelf
set_option linter.unusedSimpArgs false
set_option linter.unusedVariables false
section
variable {α:Type} {p:L8->Option (α × L8)} {acc:List α} {n:Nat} {l r:L8} {i:α}
end
theorem zoz (x:Int):∀ u ∈ (#[Value.int .i64 x]:Array Value).toList,u.oneCell'=true:=by simp;rfl
theorem DAt.tailI {w:World} {A:Nat->Prop} {b off:Nat} {x:Int} {r:List Int} (h:DAt w A (some ⟨b,off,none⟩) (x :: r).length (zdx (x :: r))):DAt w A (some ⟨b,off+1,none⟩) r.length (zdx r):=by
 obtain ⟨h1,h2,h3⟩:=h;have e:zdx (x :: r) = .int x :: zdx r:=rfl;rw [e] at h1 h2 h3;refine ⟨by simp only [vat] at h1;omega,by simp only [vat] at h2;omega,?_⟩
 rcases h3 with h4 | ⟨b',off',cs,ha,hl,hb,hc,hx⟩
 . simp at h4
 . cases ha
   unfold DVals at hx;obtain ⟨v,t,rfl,_,hx⟩:=hx;refine Or.inr ⟨b,off+1,t,rfl,hl,hb,fun j u hj=>?_,hx⟩;have:=hc (j+1) u (by simpa using hj);rw [show off+1+j=off+(j+1) from by omega];exact this
theorem Wd.fromIn {w:World} {B base:Nat} {cx:Cx} {K:Wk} {vo:Value} {s:Sw} {e:Int} {x:Int} {r:List Int} {ai aj:OA} {ci cj:Nat} (h:Wd w B base cx K vo s e) (hs:s.inp=x :: r) (hb:w.heap[B]? = some (.cells (wC cx K ai ci vo s e) 128 (0,0))) (hi:DAt w (·<base) aj r.length (zdx r)) (hc:r.length<=cj):Wd (w.setCell ⟨B,4,none⟩ (.slice aj r.length cj)) B base cx K vo { s with inp:=r } e:=by
 have h6:=h.ro.lB;refine ⟨⟨aj,cj,zaf hb _,hi.moves ⟨by simp,fun b _ hlt=>⟨hlt,zac (by show b≠B;omega) _⟩⟩,hc⟩,?_,?_,h.ro.moves (by simp) (fun b _ hn _=>zac (by show b≠B;exact hn) _),h.cd,h.dl,h.tl,h.tm,h.cl,h.ol⟩
 . exact (zac (by show K.D≠B;exact fun e=>h.ro.BD e.symm) _).trans h.data
 . exact zbg h.out (fun k hk=>zac (fun e=>h.oB (by rw [hk];exact congrArg some e)) _)
theorem zw5 (B base:Nat) (cx:Cx) (K:Wk) (vo:Value) (s:Sw) (w:World) (h:Wd w B base cx K vo s 0) :
 Calls Tryz.prog 290 #[.pointer (some ⟨B,0,none⟩)] w fun e w'=>Sr zdw B base cx K w vo (zhb s) e w':=by
 obtain ⟨ai,ci,hb,hi,hc⟩:=h.blk;have HW:=hid h
 cases hs:s.inp with
 | nil=>
   have HR:Hid (zhb s = .ok 0 s):=by show _=_;unfold zhb;rw [hs]
   have hb':=hb;unfold wC at hb';rw [hs] at hb';obtain ⟨q0,q1,q2,q3,q4,q5,q6,q7,q8,q9,qz,qf⟩:=zbr hb';clear h hb hb' hi hc hs;go_enter Tryz.func290,Tryz.ntmps290;go_wp2_with fail
   go_returns
   exact ⟨vo,Fm.refl _ _ _ _,Or.inl ⟨0,s,HR.out,rfl,HW.out⟩⟩
 | cons x r=>
   have HR:Hid (zhb s = .ok x { s with inp:=r }):=by show _=_;unfold zhb;rw [hs]
   have hi':=hi;rw [hs] at hi';obtain ⟨b,off,rfl,hbl,c0,hwx⟩:=hi'.num 0 (by simp);rw [hs] at hc;simp only [vat] at hc;have HT:=hid hi'.tailI;have HP:=hid (fun aj cj (h1:DAt w (·<base) aj r.length (zdx r)) (h2:r.length<=cj)=>HW.out.fromIn hs hb h1 h2);have hb':=hb;unfold wC at hb';rw [hs] at hb';have hbd:=hi'.bound;obtain ⟨q0,q1,q2,q3,q4,q5,q6,q7,q8,q9,qz,qf⟩:=zbr hb';simp only [vat,vbl,vbn] at q4 c0 hbd;clear h hb hb' hi hi' hs
   by_cases hc1:ci=1
   . subst hc1
     obtain rfl:r=[]:=vam (by omega);simp only [vdu,vbc] at q4;go_enter Tryz.func290,Tryz.ntmps290;go_wp2_with fail
     go_returns
     exact ⟨vo,Fm.grown zdn,Or.inl ⟨x,_,HR.out,rfl,HP.out _ _ ⟨by simp [zdx],by simp [zdx],Or.inl rfl⟩ (by simp)⟩⟩
   . have hc2:¬ ci - 1=0:=by omega
     have hc3:¬ ci<=1:=by omega
     go_enter Tryz.func290,Tryz.ntmps290;go_wp2_with fail
     go_returns
     exact ⟨vo,Fm.grown zdn,Or.inl ⟨x,_,HR.out,rfl,HP.out _ _ HT.out (by omega)⟩⟩
theorem Wd.told {w w1:World} {B base:Nat} {cx:Cx} {K:Wk} {vo:Value} {s:Sw} {o:Obj} {n:Int} {q c:Nat} (h:Wd w B base cx K vo s 0) (hg:(w.alloc o).grownBy w1 vo.ownBlock) (hat:vo.ownBlock=some q\/q=w.heap.size+1) (ho:w1.ownsRow K.S 3 1 (.slice (some ⟨q,0,none⟩) (s.out.length+1) c) (s.out.length+1) (intV s.out++[.int .i64 n])) (hl:s.out.length≠200) :
 Wd (w1.setCell ⟨B,5,none⟩ (.slice (some ⟨q,0,none⟩) (s.out.length+1) c)) B base cx K (.slice (some ⟨q,0,none⟩) (s.out.length+1) c) { s with out:=s.out++[n] } 0/\Fm B K.D vo (.slice (some ⟨q,0,none⟩) (s.out.length+1) c) w (w1.setCell ⟨B,5,none⟩ (.slice (some ⟨q,0,none⟩) (s.out.length+1) c)):=by
 obtain ⟨ai,ci,hb,hi,hc⟩:=h.blk;have hbl:=zab hb;have hdl:=zab h.data
 have k:∀ b,b<w.heap.size->vo.ownBlock≠some b->w1.heap[b]? = w.heap[b]?:=fun b hb hn=>(hg.block b (by simp;omega) (fun e=>hn e.symm)).trans ((al1 w o).block b hb)
 have hqB:q≠B:=by
  rcases hat with e | e
  . exact fun x=>h.oB (by rw [e,x])
  . omega
 have hqD:q≠K.D:=by
  rcases hat with e | e
  . exact fun x=>h.oD (by rw [e,x])
  . omega
 have hS:=h.ro.zS;have hBS:=h.ro.BS;have hlB:=h.ro.lB
 have hob:∀ b,b<K.S->w1.heap[b]? = w.heap[b]?:=fun b hlt=>k b (by omega) (fun e=>by have:=(h.out.lt b e).1;omega)
 have hsz:w.heap.size<=w1.heap.size:=vav (by simp) hg.size;have hol:=h.ol;refine ⟨⟨⟨ai,ci,?_,hi.moves ⟨by simpa using hsz,fun b hb' hlt=>⟨hlt,(zac (by show b≠B;omega) _).trans (hob b (by omega))⟩⟩,hc⟩,?_,?_,h.ro.moves (by simpa using hsz) (fun b h1 hn _=>(zac (by show b≠B;exact hn) _).trans (hob b h1)),h.cd,h.dl,h.tl,h.tm,h.cl,?_⟩,⟨hg.os,hg.tape,hg.output,by simpa using hsz,fun b h1 h2 _ h4=>(zac (by show b≠B;exact h2) _).trans (k b h1 h4),fun x e hx=>?_⟩⟩
 . exact zaf ((k B hbl h.oB).trans hb) _
 . exact (zac (by show K.D≠B;exact fun e=>h.ro.BD e.symm) _).trans ((k K.D hdl h.oD).trans h.data)
 . show (w1.setCell _ _).ownsRow K.S 3 1 _ (s.out++[n]).length (intV (s.out++[n]))
   rw [vag,vbg,zv9];exact zbg ho (fun k hk=>zac (fun e=>hqB ((vab hk).trans e)) _)
 . show (s.out++[n]).length<=200
   rw [vag,vbg];omega
 . obtain rfl:q=x:=vab e
   rcases hat with h1 | h1
   . exact h1
   . omega
theorem zw6 (B base:Nat) (cx:Cx) (K:Wk) (vo:Value) (s:Sw) (n:Int) (w:World) (h:Wd w B base cx K vo s 0) :
 Calls Tryz.prog 266 #[.pointer (some ⟨B,0,none⟩),.int .i64 n] w fun e w'=>Sr z2j B base cx K w vo (zhc n s) e w':=by
 obtain ⟨ai,ci,hb,_,_⟩:=h.blk;obtain ⟨av,cv,hvo,_,_⟩:=zba h.out;obtain ⟨q0,q1,q2,q3,q4,q5,q6,q7,q8,q9,qz,qf⟩:=zbr hb;have hol:=h.ol;have HW:=hid h
 by_cases ht:s.out.length=200
 . have HR:Hid (zhc n s = .stop 5 s):=if_pos ht
   have HS:=hid (zft B base cx K vo s 5 w h);subst hvo;rw [ht] at q5;clear h hb;go_enter Tryz.func266,Tryz.ntmps266;go_wp2_with fail;refine HS.out.mono ?_;rintro e w1 ⟨rfl,hg,hw⟩;exact ⟨rfl,_,Fm.grown hg,Or.inr ⟨5,s,HR.out,rfl,hw⟩⟩
 . have HR:Hid (zhc n s = .ok () { s with out:=s.out++[n] }):=if_neg ht
   have ht':¬ (s.out.length:Int)=200:=by omega
   have ht2:((s.out.length:Int) == 200)=false:=by rw [beq_eq_false_iff_ne];exact ht'
   obtain ⟨i0,hi,hz0,hz1,hz2⟩:=info_parts Tryz.infoInt;have HRow:=hid (ownsRow_later h.out (al1 w (.cells #[.int .i64 n] 3)));have hbz:K.S<=w.heap.size:=h.ro.zS;subst hvo;have HTd:=hid (fun w1 q c hg hat ho=>h.told (w1:=w1) (o:=.cells #[.int .i64 n] 3) (n:=n) (q:=q) (c:=c) hg hat ho ht);have HBk:=hid (fun w1 (hg:(w.alloc (.cells #[.int .i64 n] 3)).grownBy w1 (Value.ownBlock (.slice av s.out.length cv)))=>(hg.block B (by simp;omega) (fun e=>h.oB e.symm)).trans (((al1 w (.cells #[.int .i64 n] 3)).block B (zab hb)).trans hb));clear h hb;go_enter Tryz.func266,Tryz.ntmps266
   go_wp2_with (at_builtin;refine wpList_append_lies _ rfl (.tmp 16) (.tmp 18) _ rfl K.S 3 i0 _ 1 8 Tryz.underlying49 hi hz0 hz1 hz2 rfl (by omega) (.slice av s.out.length cv) s.out.length (intV s.out) rfl HRow.out ⟨_,0,none⟩ 1 1 [.int .i64 n] rfl rfl (Fx.zjl (by simp)) (by simp;rfl) (by omega) (by unfold maxLen;omega) (by omega) (by simp;omega) _ rfl ?_;intro q9' c9 w1 hown1 hg hat hlt2;have HT:=hid (HTd.out w1 q9' c9 hg (by simpa using hat) hown1);have hX:=HBk.out w1 hg;obtain ⟨p0,p1,p2,p3,p4,p5,p6,p7,p8,p9,pz,pf⟩:=zbr hX;clear hX hown1 hg hat)
   go_end0;exact ⟨_,HT.out.2,Or.inl ⟨(),_,HR.out,rfl,HT.out.1⟩⟩
def Cl (w:World) (B C u:Nat) (lv:Value) (ret:Int):Prop:=w.heap[C]? = some (.cells #[.pointer (some ⟨B,0,none⟩),.int .i64 u,lv,.int .i64 ret] 257 (0,0))
theorem za2 {w:World} {b:Nat} {x0 x1 x2 x3:Value} {t:TypeId} (h:w.heap[b]? = some (.cells #[x0,x1,x2,x3] t (0,0))) :
 w.cell? ⟨b,0,none⟩=some x0/\w.cell? ⟨b,1,none⟩=some x1/\w.cell? ⟨b,2,none⟩=some x2/\w.cell? ⟨b,3,none⟩=some x3/\b<w.heap.size/\∀ j,w.frozen? ⟨b,j,none⟩=false:=by
 refine ⟨?_,?_,?_,?_,zab h,fun j=>vef h j⟩<;>(rw [vee h];rfl)
theorem DAt.row {w:World} {A:Nat->Prop} {a:OA} {l:List (List Nat)} (h:DAt w A a l.length (zoe l)) (i:Nat) (hi:i<l.length):∃ b off a1 k1,a=some ⟨b,off,none⟩/\b<w.heap.size/\w.cell? ⟨b,off+i,none⟩=some (.slice a1 l[i].length k1)/\DAt w A a1 l[i].length (zdx (natI l[i])):=by
 obtain ⟨b,off,ha,hb,hc⟩:=h.cell (by omega);obtain ⟨v,hv,hd⟩:=hc i (.list l[i].length (zdx (natI l[i]))) (by simp [zoe,hi]);obtain ⟨a1,k1,rfl,h1⟩:=zaz hd;exact ⟨b,off,a1,k1,ha,hb,hv,h1⟩
theorem zt5 (B base:Nat) (cx:Cx) (K:Wk) (vo:Value) (s:Sw) (C u:Nat) (lv:Value) (ret m at_:Int) (w:World) (h:Wd w B base cx K vo s 0) (hC:Cl w B C u lv ret) (hu:u<cx.near.length) (hm:0<=m) (hn:m.toNat<cx.near[u].length) (hw:cx.near[u][m.toNat]<cx.beg.length) (hf : -9223372036854775808<=plcS cx u m at_/\plcS cx u m at_<=9223372036854775807) :
 Calls Tryz.prog 289 #[.pointer (some ⟨C,0,none⟩),.int .i64 m,.int .i64 at_] w fun e w'=>e = .returned (.int .i64 (plcS cx u m at_))/\∃ q,w'=w.drewN q:=by
 obtain ⟨mm,rfl⟩:∃ k:Nat,m=k:=⟨m.toNat,by omega⟩
 have hn':mm<cx.near[u].length:=by simpa using hn
 have hw':cx.near[u][mm]<cx.beg.length:=by simpa using hw
 clear hn hw hm;obtain ⟨ai,ci,hb, -, -⟩:=h.blk;obtain ⟨q0,q1,q2,q3,q4,q5,q6,q7,q8,q9,qz,qf⟩:=zbr hb;obtain ⟨p0,p1,p2,p3,pz,pf⟩:=za2 hC;obtain ⟨b1,o1,a1,k1,hb1,hz1,c1,hd1⟩:=h.ro.near.row u hu
 have hln:(natI cx.near[u]).length=cx.near[u].length:=by simp [natI]
 have hd1':=hd1;rw [← hln] at hd1';obtain ⟨b2,o2,rfl,hz2,c2, -⟩:=hd1'.num mm (by rw [hln];exact hn');obtain ⟨b3,o3,hb3,hz3,c3, -⟩:=h.ro.beg.num cx.near[u][mm] hw';have hbd1:=h.ro.near.bound;have hbd2:=hd1'.bound;have hbd3:=h.ro.beg.bound
 have HE:Hid (plcS cx u (mm:Int) at_=cx.beg[cx.near[u][mm]]+at_):=by
  show _=_;unfold plcS zzn;rw [vbf,var,var,var,vaj hu,vba,vaj hn',vba,vaj hw',vba]
 rw [HE.out] at hf ⊢
 have e2:(natI cx.near[u])[mm]'(by rw [hln];exact hn')=(cx.near[u][mm]:Int):=by simp [natI]
 rw [e2] at c2;rw [hb1] at q1;rw [hb3] at q2;rw [hln] at hbd2;clear h hb hC hd1 hd1' HE
 have hwr:wrap64 (cx.beg[cx.near[u][mm]]+at_)=cx.beg[cx.near[u][mm]]+at_:=by unfold wrap64;omega
 generalize cx.beg[cx.near[u][mm]]=x3 at *;clear e2;generalize cx.near[u][mm]=x2 at *;clear hln;generalize cx.near[u].length=n1 at *;clear hb1 hb3;go_enter Tryz.func289,Tryz.ntmps289;go_wp2_with fail
 go_quiet ((fail))
 go_wp2_with fail
 go_returns
 exact ⟨by first | rfl | simp [*],_,rfl⟩
end Go.Proofs.YtndkhgakfodldaaGreatDoor

namespace Go.Proofs.YtndkhgakfodldaaGreatDoor
set_option linter.unusedVariables false
def zol (cx:Cx) (u sz:Nat) (m at_ n:Int):Prop:=
 0<=m/\0<=at_/\∃ (h1:u<cx.near.length) (h2:m.toNat<cx.near[u].length) (h3:cx.near[u][m.toNat]<cx.beg.length),0<=cx.beg[cx.near[u][m.toNat]]/\cx.beg[cx.near[u][m.toNat]]+at_+n<=sz
def zwd (cx:Cx) (u k:Nat) (m at_:Int):Prop:=
 0<=m/\0<=at_/\∃ (h1:u<cx.near.length) (h2:m.toNat<cx.near[u].length) (h3:cx.near[u][m.toNat]<cx.us.length) (h4:at_.toNat<cx.us[cx.near[u][m.toNat]].parts.length),(cx.us[cx.near[u][m.toNat]].parts[at_.toNat]).params=k
def okN (cx:Cx) (u nl sz:Nat):Nat->Nd->Prop
 | 0,_=>False
 | k+1,x=>
   x.op=1\/x.op=2\/(x.op=16/\0<=x.at_/\x.at_<nl)\/(x.op=3/\zol cx u sz x.m x.at_ 1)
   \/(x.op=4/\1<=x.n/\zol cx u sz x.m x.at_ x.n/\x.args.length=1/\∀ y ∈ x.args,okN cx u nl sz k y)
   \/(x.op=5/\zwd cx u x.args.length x.m x.at_/\∀ y ∈ x.args,okN cx u nl sz k y)
   \/(x.op=6/\x.args.length=1/\∀ y ∈ x.args,okN cx u nl sz k y)
   \/(7<=x.op/\x.op<=15/\x.args.length=2/\∀ y ∈ x.args,okN cx u nl sz k y)
def okA (cx:Cx) (u nl sz:Nat):Nat->Ac->Prop
 | 0,_=>False
 | k+1,a=>
   (∀ y ∈ a.args,okN cx u nl sz 6 y)/\
   ((a.op=1/\a.args.length=1/\((a.m = -1/\0<=a.at_/\a.at_<nl)\/(a.m≠-1/\zol cx u sz a.m a.at_ 1)))
   \/(a.op=2/\a.args.length=2/\1<=a.n/\zol cx u sz a.m a.at_ a.n)
   \/(a.op=3/\zwd cx u a.args.length a.m a.at_)
   \/(a.op=4/\a.args.length=1/\(∀ b ∈ a.body,okA cx u nl sz k b)/\∀ b ∈ a.other,okA cx u nl sz k b)
   \/(a.op=5/\a.args.length=1/\∀ b ∈ a.body,okA cx u nl sz k b)
   \/(a.op=6/\a.args.length=1)\/(a.op=7/\a.args.length=1))
def okU (cx:Cx) (sz:Nat):Prop:=
 ∀ u (h:u<cx.us.length),(∀ a ∈ cx.us[u].main,okA cx u 0 sz 6 a)/\∀ p ∈ cx.us[u].parts,0<=p.params/\0<=p.locals/\p.params+p.locals<=16/\∀ a ∈ p.body,okA cx u (p.params+p.locals).toNat sz 6 a
def Lo (w:World) (lv:Value) (L:Nat) (loc:List Int):Prop:=(loc=[]/\∃ a,lv = .slice a 0 0)\/(lv = .slice (some ⟨L,0,none⟩) loc.length loc.length/\w.heap[L]? = some (.cells (intV loc).toArray 3 (0,0)))
theorem Fm.keep {B D b:Nat} {vo vo':Value} {w w':World} {x:Obj} (h:Fm B D vo vo' w w') (hb:w.heap[b]? = some x) (h1:b≠B) (h2:b≠D) (h3:vo.ownBlock≠some b):w'.heap[b]? = some x/\vo'.ownBlock≠some b:=
 ⟨(h.block b (zab hb) h1 h2 h3).trans hb,fun e=>h3 (h.own b e (zab hb))⟩
end Go.Proofs.YtndkhgakfodldaaGreatDoor

namespace Go.Proofs.YtndkhgakfodldaaGreatDoor
set_option maxRecDepth 100000
open Go.RowKit Go.Shelf
set_option linter.unusedSimpArgs false
set_option linter.unusedVariables false
abbrev En (cx:Cx) (n:Nat):ztg:=(lvp cx n).ent
theorem zd4 (cx:Cx) (n u:Nat) (loc:List Int) (k:Nat) (x:Nd):Kp (vN (En cx n) cx u loc k x):=zrp (zkd cx.lim cx.lim) (zd3 cx n).ent cx cx.lim u loc k x
structure Ca where
 C:Nat
 u:Nat
 lv:Value
 L:Nat
structure Cn (n:Nat) (w:World) (B base:Nat) (cx:Cx) (K:Wk) (vo:Value) (s:Sw) (c:Ca) (loc:List Int) (ret:Int):Prop where
 wd:Wd w B base cx K vo s 0
 cl:Cl w B c.C c.u c.lv ret
 lo:Lo w c.lv c.L loc
 cS:K.S<=c.C
 cO:vo.ownBlock≠some c.C
 lS:K.S<=c.L
 lz:c.L<w.heap.size
 la:loc=[]\/(c.L≠c.C/\vo.ownBlock≠some c.L)
 fu:cx.lim+1<=s.ticks+n
theorem Lo.moves {w w':World} {lv:Value} {L:Nat} {loc:List Int} (h:Lo w lv L loc) (hk:loc=[]\/w'.heap[L]? = w.heap[L]?):Lo w' lv L loc:=by
 rcases h with h | ⟨h1,h2⟩
 . exact Or.inl h
 . rcases hk with rfl | hk
   . exact Or.inl ⟨rfl,_,h1⟩
   . exact Or.inr ⟨h1,hk.trans h2⟩
theorem Lo.len {w:World} {lv:Value} {L:Nat} {loc:List Int} (h:Lo w lv L loc):∃ a,lv = .slice a loc.length loc.length:=by
 rcases h with ⟨rfl,a,h⟩ | ⟨h1,h2⟩
 . exact ⟨a,h⟩
 . exact ⟨_,h1⟩
theorem Cn.ne {n:Nat} {w:World} {B base:Nat} {cx:Cx} {K:Wk} {vo:Value} {s:Sw} {c:Ca} {loc:List Int} {ret:Int} (h:Cn n w B base cx K vo s c loc ret):c.C≠B/\c.C≠K.D/\base<=c.C/\B<w.heap.size/\K.D<w.heap.size:=by
 have h1:=h.cS;have h2:=h.wd.ro.BS;have h3:=h.wd.ro.DS;have h4:=h.wd.ro.lB;have h5:=h.wd.ro.zS;omega
theorem Lo.lt {w:World} {lv:Value} {L:Nat} {loc:List Int} (h:Lo w lv L loc):loc=[]\/L<w.heap.size:=by
 rcases h with ⟨h,_⟩ | ⟨_,h2⟩
 . exact Or.inl h
 . exact Or.inr (zab h2)
theorem Cn.on {n:Nat} {w w':World} {B base:Nat} {cx:Cx} {K:Wk} {vo vo':Value} {s s':Sw} {c:Ca} {loc:List Int} {ret:Int} (h:Cn n w B base cx K vo s c loc ret) (hf:Fm B K.D vo vo' w w') (hw:Wd w' B base cx K vo' s' 0) (ht:s.ticks<=s'.ticks):Cn n w' B base cx K vo' s' c loc ret:=by
 have hn:=h.ne;have hfu:=h.fu;obtain ⟨k1,k2⟩:=hf.keep h.cl hn.1 hn.2.1 h.cO;have h1:=h.lS;refine ⟨hw,k1,h.lo.moves ?_,h.cS,k2,h1,vac h.lz hf.size,?_,by omega⟩
 . rcases h.la with e | ⟨h2,h3⟩
   . exact Or.inl e
   . rcases h.lo.lt with e | hl
     . exact Or.inl e
     . have:=h.wd.ro.BS
       have:=h.wd.ro.DS;exact Or.inr (hf.block _ hl (by omega) (by omega) h3)
 . rcases h.la with e | ⟨h2,h3⟩
   . exact Or.inl e
   . rcases h.lo.lt with e | hl
     . exact Or.inl e
     . exact Or.inr ⟨h2,fun e=>h3 (hf.own _ e hl)⟩
theorem Cn.below {n:Nat} {w w':World} {B base:Nat} {cx:Cx} {K:Wk} {vo:Value} {s:Sw} {c:Ca} {loc:List Int} {ret:Int} (h:Cn n w B base cx K vo s c loc ret) (hb:Below w.heap.size w w'):Cn n w' B base cx K vo s c loc ret:=h.on (Fm.below hb) (h.wd.below hb) (vaa _)
theorem Cn.step {α:Type} {rep:α->Value} {n:Nat} {w w':World} {B base:Nat} {cx:Cx} {K:Wk} {vo:Value} {s:Sw} {c:Ca} {loc:List Int} {ret:Int} {F:Sw->Rr α} {e:Ending} (h:Cn n w B base cx K vo s c loc ret) (hk:Kp F) (hr:Sr rep B base cx K w vo (F s) e w') :
 (∃ k s' vo',F s = .stop k s'/\e = .panicked (z0u k)/\Fm B K.D vo vo' w w'/\Wd w' B base cx K vo' s' k)\/(∃ a s' vo',F s = .ok a s'/\e = .returned (rep a)/\Fm B K.D vo vo' w w'/\Cn n w' B base cx K vo' s' c loc ret):=by
 obtain ⟨vo',hf,⟨a,s',hr,he,hw⟩ | ⟨k,s',hr,he,hw⟩⟩:=hr
 . refine Or.inr ⟨a,s',vo',hr,he,hf,h.on hf hw ?_⟩
   have:=(hk s).2.2.2;rw [hr] at this;exact this
 . exact Or.inl ⟨k,s',vo',hr,he,hf,hw⟩
theorem Sr.ok {α:Type} {rep:α->Value} {B base:Nat} {cx:Cx} {K:Wk} {w w':World} {vo vo':Value} {r:Rr α} {a:α} {s:Sw} (hf:Fm B K.D vo vo' w w') (hr:r = .ok a s) (hw:Wd w' B base cx K vo' s 0):Sr rep B base cx K w vo r (.returned (rep a)) w':=⟨vo',hf,Or.inl ⟨a,s,hr,rfl,hw⟩⟩
theorem Sr.no {α:Type} {rep:α->Value} {B base:Nat} {cx:Cx} {K:Wk} {w w':World} {vo vo':Value} {r:Rr α} {k:Int} {s:Sw} (hf:Fm B K.D vo vo' w w') (hr:r = .stop k s) (hw:Wd w' B base cx K vo' s k):Sr rep B base cx K w vo r (.panicked (z0u k)) w':=⟨vo',hf,Or.inr ⟨k,s,hr,rfl,hw⟩⟩
abbrev ndA (x:Nd) (a:OA) (k:Nat):Array Value:=#[.int .i64 x.op,.int .i64 x.n,.int .i64 x.m,.int .i64 x.at_,.slice a x.args.length k]
def NdV (n B base:Nat) (cx:Cx) (K:Wk) (k:Nat) (x:Nd):Prop:=∀ (c:Ca) (loc:List Int) (ret:Int) (vo:Value) (s:Sw) (a1:OA) (k1:Nat) (w:World),Cn n w B base cx K vo s c loc ret->DAt w (·<base) a1 x.args.length (zcl x.args)->okN cx c.u loc.length K.cd k x->
 Calls Tryz.prog 262 #[.pointer (some ⟨c.C,0,none⟩),.agg (ndA x a1 k1)] w fun e w'=>Sr zdw B base cx K w vo (vN (En cx n) cx c.u loc k x s) e w'
theorem DAt.fm {B Dd base:Nat} {vo vo':Value} {w w':World} {a:OA} {m:Nat} {l:List D} (h:DAt w (·<base) a m l) (hf:Fm B Dd vo vo' w w') (h1:base<=B) (h2:base<=Dd) (h3:∀ k,vo.ownBlock=some k->base<=k):DAt w' (·<base) a m l:=
 h.moves ⟨hf.size,fun b hb hl=>⟨hl,hf.block b hb (by omega) (by omega) (fun e=>by have:=h3 b e;omega)⟩⟩
theorem Cn.dat {n:Nat} {w w':World} {B base:Nat} {cx:Cx} {K:Wk} {vo vo':Value} {s:Sw} {c:Ca} {loc:List Int} {ret:Int} {a:OA} {m:Nat} {l:List D} (h:Cn n w B base cx K vo s c loc ret) (hf:Fm B K.D vo vo' w w') (hd:DAt w (·<base) a m l):DAt w' (·<base) a m l:=
 hd.fm hf h.wd.ro.lB h.wd.ro.lD (fun k e=>by have:=(h.wd.out.lt k e).1;have:=h.wd.ro.BS;have:=h.wd.ro.lB;omega)
set_option maxHeartbeats 1600000
theorem zol.plc {cx:Cx} {u sz:Nat} {m at_ n:Int} (h:zol cx u sz m at_ n):0<=plcS cx u m at_/\plcS cx u m at_+n<=sz:=by
 obtain ⟨hm,ha,h1,h2,h3,h4,h5⟩:=h
 have e:plcS cx u m at_=cx.beg[cx.near[u][m.toNat]]+at_:=by
  unfold plcS zzn;rw [var,var,var,vaj h1,vba,vaj h2,vba,vaj h3,vba]
 rw [e];omega
theorem zlp {cx:Cx} {K:Wk} {B base C u:Nat} {lv:Value} {ret m at_ n:Int} {vo:Value} {s:Sw} {w:World} (h:Wd w B base cx K vo s 0) (hC:Cl w B C u lv ret) (hp:zol cx u K.cd m at_ n) (hn:0<=n) :
 Calls Tryz.prog 289 #[.pointer (some ⟨C,0,none⟩),.int .i64 m,.int .i64 at_] w fun e w'=>e = .returned (.int .i64 (plcS cx u m at_))/\∃ q,w'=w.drewN q:=by
 have hq:=hp.plc;have h1:=h.cd;have h2:=h.dl;obtain ⟨hm,ha,k1,k2,k3,k4,k5⟩:=hp;exact zt5 B base cx K vo s C u lv ret m at_ w h hC k1 hm k2 k3 (by omega)
def zw7 (b:Bool):Value:=.bool b
def holdS (F:Sw->Rr Int) (s:Sw):Rr Bool:=(F s).bind fun v s=>.ok (v != 0) s
theorem zem {F:Sw->Rr Int} (h:Kp F):Kp (holdS F):=zv6 h (fun _ s=>zh4.refl s)
theorem zr0 {F:Sw->Rr Int} {s s':Sw} {k:Int} (h:F s = .stop k s'):holdS F s = .stop k s':=by unfold holdS;rw [h];rfl
theorem zw8 {F:Sw->Rr Int} {s s':Sw} {v:Int} (h:F s = .ok v s'):holdS F s = .ok (v != 0) s':=by unfold holdS;rw [h];rfl
theorem zdr {n B base:Nat} {cx:Cx} {K:Wk} {k:Nat} {x:Nd} {c:Ca} {loc:List Int} {ret:Int} {vo:Value} {s:Sw} {a1:OA} {k1:Nat} {w:World} (hV:NdV n B base cx K k x) (h:Cn n w B base cx K vo s c loc ret) (hD:DAt w (·<base) a1 x.args.length (zcl x.args)) (hN:okN cx c.u loc.length K.cd k x) :
 Calls Tryz.prog 264 #[.pointer (some ⟨c.C,0,none⟩),.agg (ndA x a1 k1)] w fun e w'=>Sr zw7 B base cx K w vo (holdS (vN (En cx n) cx c.u loc k x) s) e w':=by
 have HC:=hid (fun W (hW:Below w.heap.size w W)=>h.below hW);have HV:=hid (fun W (hW:Below w.heap.size w W)=>hV c loc ret vo s a1 k1 W (h.below hW) (hD.later hW) hN);clear h hV hD hN;go_enter Tryz.func264,Tryz.ntmps264;go_wp2_with fail;refine (HV.out _ (al1 w _)).mono ?_;intro e w1 hS
 rcases (HC.out _ (al1 w _)).step (zd4 _ _ _ _ _ _) hS with ⟨k',s',vo',hr,rfl,hf,hw⟩ | ⟨v,s',vo',hr,rfl,hf,hw⟩
 . exact ⟨rfl,Sr.no ((Fm.below (al1 w _)).trans hf) (zr0 hr) hw⟩
 . have HE:=hid (Sr.ok (rep:=zw7) ((Fm.below (al1 w _)).trans hf) (zw8 hr) hw.wd)
   clear hr hf hw hS;unfold zdw;go_wp2_with fail
   go_returns
   exact HE.out
theorem zio {n B base:Nat} {cx:Cx} {K:Wk} {k:Nat} {x:Nd} {c:Ca} {loc:List Int} {ret:Int} {vo:Value} {s:Sw} {a1:OA} {k1:Nat} {sz m at_:Int} {w:World} (hV:NdV n B base cx K k x) (h:Cn n w B base cx K vo s c loc ret) (hD:DAt w (·<base) a1 x.args.length (zcl x.args)) (hN:okN cx c.u loc.length K.cd k x) (hz:1<=sz) (hp:zol cx c.u K.cd m at_ sz) :
 Calls Tryz.prog 261 #[.pointer (some ⟨c.C,0,none⟩),.int .i64 sz,.int .i64 m,.int .i64 at_,.agg (ndA x a1 k1)] w fun e w'=>Sr zdw B base cx K w vo (elmS (vN (En cx n) cx c.u loc k x) (plcS cx c.u m at_) sz s) e w':=by
 have HC:=hid (fun W (hW:Below w.heap.size w W)=>h.below hW);have HV:=hid (fun W (hW:Below w.heap.size w W)=>hV c loc ret vo s a1 k1 W (h.below hW) (hD.later hW) hN);have HP:=hid hp;have hq:=hp.plc;have h1:=h.wd.cd;have h2:=h.wd.dl
 have hu:K.cd<=512:=by omega
 clear h hV hD hN h1 h2 hp;go_enter Tryz.func261,Tryz.ntmps261;go_wp2_with fail;refine (HV.out _ (al1 w _)).mono ?_;intro e w1 hS
 rcases (HC.out _ (al1 w _)).step (zd4 _ _ _ _ _ _) hS with ⟨k',s',vo',hr,rfl,hf,hw⟩ | ⟨v,s',vo',hr,rfl,hf,hw⟩
 . exact ⟨rfl,Sr.no ((Fm.below (al1 w _)).trans hf) (by unfold elmS;rw [hr];rfl) hw⟩
 . have HF:=hid ((Fm.below (al1 w _)).trans hf)
   have HW:=hid hw;have HR:=hid hr;have hcl:=hw.cl;obtain ⟨p0,p1,p2,p3,pz,pf⟩:=za2 hcl;clear hr hf hw hS hcl;unfold zdw
   by_cases hv:v<0
   . have HS:=hid (zft B base cx K vo' s' 2 w1 HW.out.wd)
     go_wp2_with fail;refine HS.out.mono ?_;rintro e w2 ⟨rfl,hg,hw⟩;exact ⟨rfl,Sr.no (HF.out.trans (Fm.grown hg)) (by unfold elmS;rw [HR.out];exact if_pos (Or.inl hv)) hw⟩
   . by_cases hv2:sz<=v
     . have HS:=hid (zft B base cx K vo' s' 2 w1 HW.out.wd)
       go_wp2_with fail;refine HS.out.mono ?_;rintro e w2 ⟨rfl,hg,hw⟩;exact ⟨rfl,Sr.no (HF.out.trans (Fm.grown hg)) (by unfold elmS;rw [HR.out];exact if_pos (Or.inr hv2)) hw⟩
     . have HS:=hid (zlp HW.out.wd HW.out.cl HP.out (by omega))
       have HA:Hid (elmS (vN (En cx n) cx c.u loc k x) (plcS cx c.u m at_) sz s = .ok (plcS cx c.u m at_+v) s'):=by show _=_;unfold elmS;rw [HR.out];exact if_neg (by omega)
       have hwr:wrap64 (plcS cx c.u m at_+v)=plcS cx c.u m at_+v:=by unfold wrap64;omega
       go_wp2_with fail;refine HS.out.mono ?_;rintro e w2 ⟨rfl,q,rfl⟩;have HB:=hid (bd w1 q);go_wp2_with fail
       go_returns
       exact Sr.ok (rep:=zdw) (HF.out.trans (Fm.below HB.out)) HA.out (HW.out.below HB.out).wd
theorem Wd.cell {w:World} {B base:Nat} {cx:Cx} {K:Wk} {vo:Value} {s:Sw} {e:Int} (h:Wd w B base cx K vo s e) (i:Nat) (hi:i<s.data.length):w.cell? ⟨K.D,i,none⟩=some (.int .i64 (s.data.getD i 0)):=by
 rw [vee h.data,vcp];simp [intV,hi]
theorem Lo.cell {w:World} {lv:Value} {L:Nat} {loc:List Int} (h:Lo w lv L loc) (i:Nat) (hi:i<loc.length):lv = .slice (some ⟨L,0,none⟩) loc.length loc.length/\L<w.heap.size/\w.cell? ⟨L,i,none⟩=some (.int .i64 (loc.getD i 0)):=by
 rcases h with ⟨rfl,_⟩ | ⟨h1,h2⟩
 . simp at hi
 . refine ⟨h1,zab h2,?_⟩
   rw [vee h2,vcp];simp [intV,hi]
theorem Wd.top {w:World} {B base:Nat} {cx:Cx} {K:Wk} {vo:Value} {s:Sw} {e:Int} (h:Wd w B base cx K vo s e):w.cell? ⟨B,3,none⟩=some (.slice (some ⟨K.D,0,none⟩) K.cd K.cd)/\B<w.heap.size/\K.D<w.heap.size:=by
 obtain ⟨ai,ci,hb, -, -⟩:=h.blk;obtain ⟨q0,q1,q2,q3, -⟩:=zbr hb;refine ⟨?_,zab hb,zab h.data⟩;rw [q3,h.cd]
theorem z4e {n B base:Nat} {cx:Cx} {K:Wk} {k:Nat} {nn m at_:Int} {args:List Nd} {c:Ca} {loc:List Int} {ret:Int} {vo:Value} {s:Sw} {a1:OA} {k1:Nat} {w:World} (h:Cn n w B base cx K vo s c loc ret) :
 Calls Tryz.prog 262 #[.pointer (some ⟨c.C,0,none⟩),.agg #[.int .i64 1,.int .i64 nn,.int .i64 m,.int .i64 at_,.slice a1 args.length k1]] w fun e w'=>Sr zdw B base cx K w vo (vN (En cx n) cx c.u loc (k+1) ⟨1,nn,m,at_,args⟩ s) e w':=by
 have HE:=hid (fun W (hW:Below w.heap.size w W)=>Sr.ok (rep:=zdw) (Fm.below hW) (show vN (En cx n) cx c.u loc (k+1) ⟨1,nn,m,at_,args⟩ s = .ok nn s from rfl) (h.wd.below hW));clear h;go_enter Tryz.func262,Tryz.ntmps262;go_wp2_with fail
 go_returns
 exact HE.out _ (al1 w _)
theorem z4f {n B base:Nat} {cx:Cx} {K:Wk} {k:Nat} {nn m at_:Int} {args:List Nd} {c:Ca} {loc:List Int} {ret:Int} {vo:Value} {s:Sw} {a1:OA} {k1:Nat} {w:World} (h:Cn n w B base cx K vo s c loc ret) :
 Calls Tryz.prog 262 #[.pointer (some ⟨c.C,0,none⟩),.agg #[.int .i64 2,.int .i64 nn,.int .i64 m,.int .i64 at_,.slice a1 args.length k1]] w fun e w'=>Sr zdw B base cx K w vo (vN (En cx n) cx c.u loc (k+1) ⟨2,nn,m,at_,args⟩ s) e w':=by
 obtain ⟨p0,p1,p2,p3,pz,pf⟩:=za2 h.cl;have HC:=hid (fun W (hW:Below w.heap.size w W)=>h.below hW);have HV:=hid (fun W (hW:Below w.heap.size w W)=>zw5 B base cx K vo s W (h.wd.below hW));clear h;go_enter Tryz.func262,Tryz.ntmps262;go_wp2_with fail;refine (HV.out _ (al1 w _)).mono ?_;intro e w1 hS
 rcases (HC.out _ (al1 w _)).step zv7 hS with ⟨k',s',vo',hr,rfl,hf,hw⟩ | ⟨v,s',vo',hr,rfl,hf,hw⟩
 . exact ⟨rfl,Sr.no ((Fm.below (al1 w _)).trans hf) hr hw⟩
 . have HE:=hid (Sr.ok (rep:=zdw) ((Fm.below (al1 w _)).trans hf) (show vN (En cx n) cx c.u loc (k+1) ⟨2,nn,m,at_,args⟩ s = .ok v s' from hr) hw.wd)
   clear hr hf hw hS;go_wp2_with fail
   go_returns
   exact HE.out
theorem z27 {n B base:Nat} {cx:Cx} {K:Wk} {k:Nat} {nn m at_:Int} {args:List Nd} {c:Ca} {loc:List Int} {ret:Int} {vo:Value} {s:Sw} {a1:OA} {k1:Nat} {w:World} (h:Cn n w B base cx K vo s c loc ret) (h0:0<=at_) (h1:at_<loc.length) :
 Calls Tryz.prog 262 #[.pointer (some ⟨c.C,0,none⟩),.agg #[.int .i64 16,.int .i64 nn,.int .i64 m,.int .i64 at_,.slice a1 args.length k1]] w fun e w'=>Sr zdw B base cx K w vo (vN (En cx n) cx c.u loc (k+1) ⟨16,nn,m,at_,args⟩ s) e w':=by
 obtain ⟨i,rfl⟩:∃ i:Nat,at_=i:=⟨at_.toNat,by omega⟩
 have hi:i<loc.length:=by omega
 obtain ⟨hlv,hL,hcl⟩:=h.lo.cell i hi;have hC:=h.cl;rw [hlv] at hC;obtain ⟨p0,p1,p2,p3,pz,pf⟩:=za2 hC;have HE:=hid (fun W (hW:Below w.heap.size w W)=>Sr.ok (rep:=zdw) (Fm.below hW) (show vN (En cx n) cx c.u loc (k+1) ⟨16,nn,m,(i:Int),args⟩ s = .ok (loc.getD (Int.toNat i) 0) s from rfl) (h.wd.below hW));rw [vbf] at HE;generalize loc.getD i 0=v at *;generalize loc.length=ln at *;clear h hC hlv h0 h1;go_enter Tryz.func262,Tryz.ntmps262;go_wp2_with fail
 go_quiet ((fail))
 go_wp2_with fail
 go_returns
 exact HE.out _ (zod (al1 w _) _)
theorem z4g {n B base:Nat} {cx:Cx} {K:Wk} {k:Nat} {nn m at_:Int} {args:List Nd} {c:Ca} {loc:List Int} {ret:Int} {vo:Value} {s:Sw} {a1:OA} {k1:Nat} {w:World} (h:Cn n w B base cx K vo s c loc ret) (hp:zol cx c.u K.cd m at_ 1) :
 Calls Tryz.prog 262 #[.pointer (some ⟨c.C,0,none⟩),.agg #[.int .i64 3,.int .i64 nn,.int .i64 m,.int .i64 at_,.slice a1 args.length k1]] w fun e w'=>Sr zdw B base cx K w vo (vN (En cx n) cx c.u loc (k+1) ⟨3,nn,m,at_,args⟩ s) e w':=by
 have hq:=hp.plc;have hcd:=h.wd.cd;have hdl:=h.wd.dl;obtain ⟨p0,p1,p2,p3,pz,pf⟩:=za2 h.cl;obtain ⟨q3,qz,dz⟩:=h.wd.top;have HE:=hid (fun W (hW:Below w.heap.size w W)=>Sr.ok (rep:=zdw) (Fm.below hW) (show vN (En cx n) cx c.u loc (k+1) ⟨3,nn,m,at_,args⟩ s = .ok (s.data.getD (plcS cx c.u m at_).toNat 0) s from rfl) (h.wd.below hW));have HP:=hid (fun W (hW:Below w.heap.size w W)=>zlp (h.wd.below hW) (h.below hW).cl hp (by omega));have hcl:=h.wd.cell (plcS cx c.u m at_).toNat (by omega);generalize plcS cx c.u m at_=p at *
 obtain ⟨i,rfl⟩:∃ i:Nat,p=i:=⟨p.toNat,by omega⟩
 rw [vbf] at HE hcl
 have hi:i<K.cd:=by omega
 generalize s.data.getD i 0=v at *;generalize K.cd=cd at *;clear h hp hq hdl hcd;go_enter Tryz.func262,Tryz.ntmps262;go_wp2_with fail
 go_quiet ((go_at_call 289;exact Calls.quiet_of (HP.out _ (zod (al1 w _) _))))
 go_wp2_with fail
 go_returns
 exact HE.out _ (zod (al1 w _) _)
theorem zcu (b:Bool) (w:World) :
 Calls Tryz.prog 227 #[.bool b] w fun en w'=>en = .returned (.int .i64 (zbv b))/\w'=w:=by
 cases b
 all_goals
  go_enter Tryz.func227,Tryz.ntmps227;go_wp2_with fail;go_ret;exact ⟨rfl,rfl⟩
def zt6:Option Int->Value
 | some n=>.tuple #[.int .i64 n,.bool true]
 | none=>.tuple #[.int .i64 0,.bool false]
def zza (op a b:Int):Option Int:=if b=0 then none else if op=12 then some (wrap64 (a.tdiv b)) else if op=13 then some (a.tmod b) else none
theorem zr1 (op a b:Int) (w:World) :
 Calls Tryz.prog 292 #[.int .i64 op,.int .i64 a,.int .i64 b] w fun en w'=>en = .returned (zt6 (zza op a b))/\w'=w:=by
 by_cases hb:b=0
 . have HP:Hid (zza op a b=none):=if_pos hb
   subst hb;go_enter Tryz.func292,Tryz.ntmps292;go_wp2_with fail;go_ret2;exact ⟨by rw [HP.out];rfl,rfl⟩
 have hb':(b == 0)=false:=beq_eq_false_iff_ne.2 hb
 by_cases h12:op=12
 . have HP:Hid (zza op a b=some (wrap64 (a.tdiv b))):=(if_neg hb).trans (if_pos h12)
   subst h12;go_enter Tryz.func292,Tryz.ntmps292;go_wp2_with fail;go_ret2;exact ⟨by rw [HP.out];rfl,rfl⟩
 have h12':(op == 12)=false:=beq_eq_false_iff_ne.2 h12
 by_cases h13:op=13
 . have HP:Hid (zza op a b=some (a.tmod b)):=(if_neg hb).trans ((if_neg h12).trans (if_pos h13))
   subst h13;go_enter Tryz.func292,Tryz.ntmps292;go_wp2_with fail;go_ret2;exact ⟨by rw [HP.out];rfl,rfl⟩
 have h13':(op == 13)=false:=beq_eq_false_iff_ne.2 h13;have HP:Hid (zza op a b=none):=(if_neg hb).trans ((if_neg h12).trans (if_neg h13));clear hb h12 h13;go_enter Tryz.func292,Tryz.ntmps292;go_wp2_with fail;go_ret2;exact ⟨by rw [HP.out];rfl,rfl⟩
theorem z1l (op a b:Int) (w:World) :
 Calls Tryz.prog 278 #[.int .i64 op,.int .i64 a,.int .i64 b] w fun en w'=>en = .returned (zt6 (ofS op a b))/\w'=w:=by
 have HP:Hid (∀ w:World,Calls Tryz.prog 292 #[.int .i64 op,.int .i64 a,.int .i64 b] w fun en w'=>en = .returned (zt6 (zza op a b))/\w'=w):=fun w=>zr1 op a b w
 by_cases h9:op=9
 . subst h9
   go_enter Tryz.func278,Tryz.ntmps278;go_wp2_with fail;go_ret2;exact ⟨rfl,rfl⟩
 by_cases h10:op=10
 . subst h10
   go_enter Tryz.func278,Tryz.ntmps278;go_wp2_with fail;go_ret2;exact ⟨rfl,rfl⟩
 by_cases h11:op=11
 . subst h11
   go_enter Tryz.func278,Tryz.ntmps278;go_wp2_with fail;go_ret2;exact ⟨rfl,rfl⟩
 by_cases h14:op=14
 . subst h14
   go_enter Tryz.func278,Tryz.ntmps278
   go_wp2_with (go_at_call 227;refine (zcu _ _).mono ?_;rintro e w' ⟨rfl,rfl⟩)
   go_ret2;exact ⟨rfl,rfl⟩
 by_cases h15:op=15
 . subst h15
   go_enter Tryz.func278,Tryz.ntmps278
   go_wp2_with (go_at_call 227;refine (zcu _ _).mono ?_;rintro e w' ⟨rfl,rfl⟩)
   go_ret2;exact ⟨rfl,rfl⟩
 have HR:Hid (ofS op a b=zza op a b):=by
  show ofS op a b=_;unfold ofS;rw [if_neg h9,if_neg h10,if_neg h11,if_neg h14,if_neg h15]
  rfl
 have b9:(op == 9)=false:=beq_eq_false_iff_ne.2 h9;have b10:(op == 10)=false:=beq_eq_false_iff_ne.2 h10;have b11:(op == 11)=false:=beq_eq_false_iff_ne.2 h11;have b14:(op == 14)=false:=beq_eq_false_iff_ne.2 h14;have b15:(op == 15)=false:=beq_eq_false_iff_ne.2 h15;clear h9 h10 h11 h14 h15
 cases hp:zza op a b with
 | none=>
   rw [hp] at HP HR;clear hp;go_enter Tryz.func278,Tryz.ntmps278;go_wp2_with fail;refine (HP.out _).mono ?_;rintro e w' ⟨rfl,rfl⟩;simp only [zt6];go_wp2_with fail;go_ret2;exact ⟨by rw [HR.out];rfl,rfl⟩
 | some n=>
   rw [hp] at HP HR;clear hp;go_enter Tryz.func278,Tryz.ntmps278;go_wp2_with fail;refine (HP.out _).mono ?_;rintro e w' ⟨rfl,rfl⟩;simp only [zt6];go_wp2_with fail;go_ret2;exact ⟨by rw [HR.out];rfl,rfl⟩
set_option maxHeartbeats 3200000
theorem zd9 {w W:World} {b:Nat} (h:W.heap[b]? = w.heap[b]?) (j:Nat):W.cell? ⟨b,j,none⟩=w.cell? ⟨b,j,none⟩:=by
 simp only [World.cell?,h]
def z3w (W:World) (b o:Nat) (x:Nd) (a1:OA) (k1:Nat):Prop:=W.cell? ⟨b,o,none⟩=some (.int .i64 x.op)/\W.cell? ⟨b,o+1,none⟩=some (.int .i64 x.n)/\W.cell? ⟨b,o+2,none⟩=some (.int .i64 x.m)/\W.cell? ⟨b,o+3,none⟩=some (.int .i64 x.at_)/\W.cell? ⟨b,o+4,none⟩=some (.slice a1 x.args.length k1)
theorem zc3 {w:World} {base:Nat} {aa:OA} {l:List Nd} (hD:DAt w (·<base) aa l.length (zcl l)) (i:Nat) (hi:i<l.length):∃ b off a1 k1,aa=some ⟨b,off,none⟩/\b<base/\b<w.heap.size/\DAt w (·<base) a1 (argN l i).args.length (zcl (argN l i).args)/\∀ W,W.heap[b]? = w.heap[b]?->z3w W b (off+i*5) (argN l i) a1 k1:=by
 rw [zms l i hi];obtain ⟨b,off,a1,k1,ha,hx⟩:=hD.nd i hi
 have hb:b<base:=by
  rcases hD.2.2 with h4 | ⟨b',off',cs,e,hl,_⟩
  . omega
  . rw [ha] at e
    cases e
    exact hl
 exact ⟨b,off,a1,k1,ha,hb,hx.lt,hx.args',fun W hW=>⟨(zd9 hW _).trans hx.c0,(zd9 hW _).trans hx.c1,(zd9 hW _).trans hx.c2,(zd9 hW _).trans hx.c3,(zd9 hW _).trans hx.c4⟩⟩
theorem zak {l:List Nd} {i:Nat} (hi:i<l.length):argN l i ∈ l:=by rw [zms l i hi];exact vah hi
theorem Cn.keepS {n:Nat} {w w':World} {B base:Nat} {cx:Cx} {K:Wk} {vo vo':Value} {s:Sw} {c:Ca} {loc:List Int} {ret:Int} (h:Cn n w B base cx K vo s c loc ret) (hf:Fm B K.D vo vo' w w') {b:Nat} {x:Obj} (hb:w.heap[b]? = some x) (hS:K.S<=b) (ho:vo.ownBlock≠some b):w'.heap[b]? = some x/\vo'.ownBlock≠some b:=by
 have h1:=h.wd.ro.BS;have h2:=h.wd.ro.DS;exact hf.keep hb (by omega) (by omega) ho
theorem Cn.keepB {n:Nat} {w w':World} {B base:Nat} {cx:Cx} {K:Wk} {vo vo':Value} {s:Sw} {c:Ca} {loc:List Int} {ret:Int} (h:Cn n w B base cx K vo s c loc ret) (hf:Fm B K.D vo vo' w w') {b:Nat} (hb:b<base) (hz:b<w.heap.size):w'.heap[b]? = w.heap[b]?:=by
 have h1:=h.wd.ro.lB;have h2:=h.wd.ro.lD;have h3:=h.wd.ro.BS;exact hf.block b hz (by omega) (by omega) (fun e=>by have:=(h.wd.out.lt b e).1;omega)
theorem Cn.new {n:Nat} {w:World} {B base:Nat} {cx:Cx} {K:Wk} {vo:Value} {s:Sw} {c:Ca} {loc:List Int} {ret:Int} (h:Cn n w B base cx K vo s c loc ret):K.S<=w.heap.size/\vo.ownBlock≠some w.heap.size:=
 ⟨h.wd.ro.zS,fun e=>by have:=(h.wd.out.lt _ e).2;omega⟩
theorem z1m (op a b:Int) (w:World):Calls Tryz.prog 278 #[.int .i64 op,.int .i64 a,.int .i64 b] w fun en w'=>en = .returned (.tuple #[.int .i64 ((ofS op a b).getD 0),.bool (ofS op a b).isSome])/\w'=w:=by
 refine (z1l op a b w).mono ?_;rintro e w' ⟨rfl,rfl⟩
 cases ofS op a b<;>exact ⟨rfl,rfl⟩
theorem zay {α β:Type} {r:Rr α} {a:α} {s:Sw} {f:α->Sw->Rr β} (h:r = .ok a s):r.bind f=f a s:=by rw [h];rfl
theorem za7 {α β:Type} {r:Rr α} {e:Int} {s:Sw} {f:α->Sw->Rr β} (h:r = .stop e s):r.bind f = .stop e s:=by rw [h];rfl
section
variable (E:ztg) (cx:Cx) (u:Nat) (loc:List Int) (k:Nat) (nn m at_:Int) (args:List Nd) (s:Sw)
theorem z28 (a:Int):(a != 0)=decide (a≠0):=by by_cases h:a=0<;>simp [h]
theorem vN6:vN E cx u loc (k+1) ⟨6,nn,m,at_,args⟩ s=(holdS (vN E cx u loc k (argN args 0)) s).bind fun b s=>.ok (zbv (!b)) s:=by
 show (vN E cx u loc k (argN args 0) s).bind _=((vN E cx u loc k (argN args 0) s).bind _).bind _
 cases vN E cx u loc k (argN args 0) s with
 | ok a t=>show Rr.ok (zbv (decide (a=0))) _=Rr.ok (zbv (!(a != 0))) _;by_cases ha:a=0<;>simp [ha,z28]
 | stop e t=>rfl
theorem vN7:vN E cx u loc (k+1) ⟨7,nn,m,at_,args⟩ s=(holdS (vN E cx u loc k (argN args 0)) s).bind fun b s=>if b=true then (holdS (vN E cx u loc k (argN args 1)) s).bind fun b s=>.ok (zbv b) s else .ok 0 s:=by
 show (vN E cx u loc k (argN args 0) s).bind _=((vN E cx u loc k (argN args 0) s).bind _).bind _
 cases vN E cx u loc k (argN args 0) s with
 | ok a t=>
   show ite (a=0) _ _=ite ((a != 0)=true) _ _
   by_cases ha:a=0
   . rw [if_pos ha,if_neg (by simp [ha])]
   . rw [if_neg ha,if_pos (by simp [ha])]
     show (vN E cx u loc k (argN args 1) t).bind _=((vN E cx u loc k (argN args 1) t).bind _).bind _
     cases vN E cx u loc k (argN args 1) t with
     | ok v t=>show Rr.ok (zbv (decide (v≠0))) _=Rr.ok (zbv (v != 0)) _;rw [z28]
     | stop e t=>rfl
 | stop e t=>rfl
theorem vN8:vN E cx u loc (k+1) ⟨8,nn,m,at_,args⟩ s=(holdS (vN E cx u loc k (argN args 0)) s).bind fun b s=>if b=true then .ok 1 s else (holdS (vN E cx u loc k (argN args 1)) s).bind fun b s=>.ok (zbv b) s:=by
 show (vN E cx u loc k (argN args 0) s).bind _=((vN E cx u loc k (argN args 0) s).bind _).bind _
 cases vN E cx u loc k (argN args 0) s with
 | ok a t=>
   show ite (a=0) _ _=ite ((a != 0)=true) _ _
   by_cases ha:a=0
   . rw [if_pos ha,if_neg (by simp [ha])]
     show (vN E cx u loc k (argN args 1) t).bind _=((vN E cx u loc k (argN args 1) t).bind _).bind _
     cases vN E cx u loc k (argN args 1) t with
     | ok v t=>show Rr.ok (zbv (decide (v≠0))) _=Rr.ok (zbv (v != 0)) _;rw [z28]
     | stop e t=>rfl
   . rw [if_neg ha,if_pos (by simp [ha])]
 | stop e t=>rfl
theorem vNB (op:Int) (h:9<=op) (h2:op<=15):vN E cx u loc (k+1) ⟨op,nn,m,at_,args⟩ s=(vN E cx u loc k (argN args 0) s).bind fun a s=>(vN E cx u loc k (argN args 1) s).bind fun b s=>match ofS op a b with
 | some n=>.ok n s
 | none=>.stop 1 s:=by
 show ite (op=1) _ _=_;rw [if_neg (by omega),if_neg (by show op≠2;omega),if_neg (by show op≠16;omega),if_neg (by show op≠3;omega),if_neg (by show op≠4;omega),if_neg (by show op≠5;omega),if_neg (by show op≠6;omega),if_neg (by show op≠7;omega),if_neg (by show op≠8;omega)]
 rfl
end
theorem z4h {n B base:Nat} {cx:Cx} {K:Wk} {k:Nat} {nn m at_:Int} {args:List Nd} {c:Ca} {loc:List Int} {ret:Int} {vo:Value} {s:Sw} {a1:OA} {k1:Nat} {w:World} (hV:∀ y ∈ args,NdV n B base cx K k y) (h:Cn n w B base cx K vo s c loc ret) (hD:DAt w (·<base) a1 args.length (zcl args)) (hN:∀ y ∈ args,okN cx c.u loc.length K.cd k y) (hl:args.length=1) :
 Calls Tryz.prog 262 #[.pointer (some ⟨c.C,0,none⟩),.agg #[.int .i64 6,.int .i64 nn,.int .i64 m,.int .i64 at_,.slice a1 args.length k1]] w fun e w'=>Sr zdw B base cx K w vo (vN (En cx n) cx c.u loc (k+1) ⟨6,nn,m,at_,args⟩ s) e w':=by
 obtain ⟨b,off,ay,ky,rfl,hb,hbz,dY,cY⟩:=zc3 hD 0 (by omega);obtain ⟨y0,y1,y2,y3,y4⟩:=cY w rfl;simp only [vbh,vbl] at y0 y1 y2 y3 y4
 have hl0:0<args.length:=by omega
 have HC:=hid (h.below (al1 w (.cells #[.int .i64 6,.int .i64 nn,.int .i64 m,.int .i64 at_,.slice (some ⟨b,off,none⟩) args.length k1] 253)));have HV:=hid (zdr (a1:=ay) (k1:=ky) (hV _ (zak (by omega))) (h.below (al1 w (.cells #[.int .i64 6,.int .i64 nn,.int .i64 m,.int .i64 at_,.slice (some ⟨b,off,none⟩) args.length k1] 253))) (dY.later (al1 w _)) (hN _ (zak (by omega))));have hk:=zem (zd4 cx n c.u loc k (argN args 0));rw [vN6];generalize holdS (vN (En cx n) cx c.u loc k (argN args 0))=F0 at *;generalize argN args 0=y at *;clear h hV hD hN dY cY hl hb;go_enter Tryz.func262,Tryz.ntmps262;go_wp2_with fail;refine HV.out.mono ?_;intro e w1 hS
 rcases HC.out.step hk hS with ⟨k',s',vo',hr,rfl,hf,hw⟩ | ⟨v,s',vo',hr,rfl,hf,hw⟩
 . exact ⟨rfl,Sr.no ((Fm.below (al1 w _)).trans hf) (za7 hr) hw⟩
 . have HE:=hid (Sr.ok (rep:=zdw) ((Fm.below (al1 w _)).trans hf) (zay (f:=fun b s=>.ok (zbv (!b)) s) hr) hw.wd)
   clear hr hf hw hS;unfold zw7
   go_wp2_with (go_at_call 227;refine (zcu _ _).mono ?_;rintro e w' ⟨rfl,rfl⟩)
   go_returns
   exact HE.out
theorem z4i {n B base:Nat} {cx:Cx} {K:Wk} {k:Nat} {nn m at_:Int} {args:List Nd} {c:Ca} {loc:List Int} {ret:Int} {vo:Value} {s:Sw} {a1:OA} {k1:Nat} {w:World} (hV:∀ y ∈ args,NdV n B base cx K k y) (h:Cn n w B base cx K vo s c loc ret) (hD:DAt w (·<base) a1 args.length (zcl args)) (hN:∀ y ∈ args,okN cx c.u loc.length K.cd k y) (hl:args.length=2) :
 Calls Tryz.prog 262 #[.pointer (some ⟨c.C,0,none⟩),.agg #[.int .i64 7,.int .i64 nn,.int .i64 m,.int .i64 at_,.slice a1 args.length k1]] w fun e w'=>Sr zdw B base cx K w vo (vN (En cx n) cx c.u loc (k+1) ⟨7,nn,m,at_,args⟩ s) e w':=by
 obtain ⟨b,off,ay,ky,rfl,hb,hbz,dY,cY⟩:=zc3 hD 0 (by omega);obtain ⟨y0,y1,y2,y3,y4⟩:=cY w rfl;simp only [vbh,vbl] at y0 y1 y2 y3 y4
 have hl0:0<args.length:=by omega
 have HC:=hid (h.below (al1 w (.cells #[.int .i64 7,.int .i64 nn,.int .i64 m,.int .i64 at_,.slice (some ⟨b,off,none⟩) args.length k1] 253)));have HV:=hid (zdr (a1:=ay) (k1:=ky) (hV _ (zak (by omega))) (h.below (al1 w (.cells #[.int .i64 7,.int .i64 nn,.int .i64 m,.int .i64 at_,.slice (some ⟨b,off,none⟩) args.length k1] 253))) (dY.later (al1 w _)) (hN _ (zak (by omega))));have hk:=zem (zd4 cx n c.u loc k (argN args 0));obtain ⟨b',off',az,kz,he, -, -,dZ,cZ⟩:=zc3 hD 1 (by omega);cases he;simp only [vdo] at cZ;have HV2:=hid (fun vo s (w':World) (hC:Cn n w' B base cx K vo s c loc ret) dZ=>zdr (a1:=az) (k1:=kz) (hV _ (zak (i:=1) (by omega))) hC dZ (hN _ (zak (by omega))));have hk2:=zem (zd4 cx n c.u loc k (argN args 1))
 have hl1:1<args.length:=by omega
 have HB:=hid (fun vo' w1 (hf:Fm B K.D vo vo' (w.alloc (.cells #[.int .i64 7,.int .i64 nn,.int .i64 m,.int .i64 at_,.slice (some ⟨b,off,none⟩) args.length k1] 253)) w1)=>(HC.out.keepS hf (b:=w.heap.size) (x:=(.cells #[.int .i64 7,.int .i64 nn,.int .i64 m,.int .i64 at_,.slice (some ⟨b,off,none⟩) args.length k1] 253)) (heap_alloc_new w _) h.new.1 h.new.2).1);have HZ:=hid (fun vo' w1 (hf:Fm B K.D vo vo' (w.alloc (.cells #[.int .i64 7,.int .i64 nn,.int .i64 m,.int .i64 at_,.slice (some ⟨b,off,none⟩) args.length k1] 253)) w1)=>cZ w1 ((HC.out.keepB hf hb (by simp;omega)).trans ((al1 w _).block b hbz)));have HD:=hid (fun vo' w1 (hf:Fm B K.D vo vo' (w.alloc (.cells #[.int .i64 7,.int .i64 nn,.int .i64 m,.int .i64 at_,.slice (some ⟨b,off,none⟩) args.length k1] 253)) w1)=>HC.out.dat hf (dZ.later (al1 w _)));rw [vN7];generalize holdS (vN (En cx n) cx c.u loc k (argN args 0))=F0 at *
 generalize holdS (vN (En cx n) cx c.u loc k (argN args 1))=F1 at *;generalize argN args 1=z at *;generalize argN args 0=y at *;clear h hV hD hN dY cY hl hb;clear cZ dZ;go_enter Tryz.func262,Tryz.ntmps262;go_wp2_with fail;refine HV.out.mono ?_;intro e w1 hS
 rcases HC.out.step hk hS with ⟨k',s',vo',hr,rfl,hf,hw⟩ | ⟨v,s',vo',hr,rfl,hf,hw⟩
 . exact ⟨rfl,Sr.no ((Fm.below (al1 w _)).trans hf) (za7 hr) hw⟩
 . have HF:=hid ((Fm.below (al1 w _)).trans hf)
   have HR:=hid hr;have HW:=hid hw;obtain ⟨z0,z1,z2,z3,z4⟩:=HZ.out _ _ hf;obtain ⟨x0,x1,x2,x3,x4, -⟩:=zad (HB.out _ _ hf);have HV3:=hid (HV2.out _ _ _ hw (HD.out _ _ hf));clear hr hf hw hS HV HB HZ HD HV2;unfold zw7
   cases v with
   | false=>
     clear z0 z1 z2 z3 z4 x0 x1 x2 x3 x4
     go_wp2_with (go_at_call 227;refine (zcu _ _).mono ?_;rintro e w' ⟨rfl,rfl⟩)
     go_returns
     exact Sr.ok (rep:=zdw) (a:=0) HF.out ((zay (f:=fun b s=>if b=true then (F1 s).bind fun b s=>.ok (zbv b) s else .ok 0 s) HR.out).trans (if_neg (by decide))) HW.out.wd
   | true=>
     go_wp2_with fail;refine HV3.out.mono ?_;intro e w2 hS
     rcases HW.out.step hk2 hS with ⟨k',s2,vo2,hr2,rfl,hf2,hw2⟩ | ⟨v,s2,vo2,hr2,rfl,hf2,hw2⟩
     . exact ⟨rfl,Sr.no (HF.out.trans hf2) ((zay (f:=fun b s=>if b=true then (F1 s).bind fun b s=>.ok (zbv b) s else .ok 0 s) HR.out).trans ((if_pos rfl).trans (za7 hr2))) hw2⟩
     . have HE:=hid (Sr.ok (rep:=zdw) (HF.out.trans hf2) ((zay (f:=fun b s=>if b=true then (F1 s).bind fun b s=>.ok (zbv b) s else .ok 0 s) HR.out).trans ((if_pos rfl).trans (zay (f:=fun b s=>.ok (zbv b) s) hr2))) hw2.wd)
       clear hr2 hf2 hw2 hS z0 z1 z2 z3 z4 x0 x1 x2 x3 x4;unfold zw7
       go_wp2_with (go_at_call 227;refine (zcu _ _).mono ?_;rintro e w' ⟨rfl,rfl⟩)
       go_returns
       exact HE.out
theorem z4j {n B base:Nat} {cx:Cx} {K:Wk} {k:Nat} {nn m at_:Int} {args:List Nd} {c:Ca} {loc:List Int} {ret:Int} {vo:Value} {s:Sw} {a1:OA} {k1:Nat} {w:World} (hV:∀ y ∈ args,NdV n B base cx K k y) (h:Cn n w B base cx K vo s c loc ret) (hD:DAt w (·<base) a1 args.length (zcl args)) (hN:∀ y ∈ args,okN cx c.u loc.length K.cd k y) (hl:args.length=2) :
 Calls Tryz.prog 262 #[.pointer (some ⟨c.C,0,none⟩),.agg #[.int .i64 8,.int .i64 nn,.int .i64 m,.int .i64 at_,.slice a1 args.length k1]] w fun e w'=>Sr zdw B base cx K w vo (vN (En cx n) cx c.u loc (k+1) ⟨8,nn,m,at_,args⟩ s) e w':=by
 obtain ⟨b,off,ay,ky,rfl,hb,hbz,dY,cY⟩:=zc3 hD 0 (by omega);obtain ⟨y0,y1,y2,y3,y4⟩:=cY w rfl;simp only [vbh,vbl] at y0 y1 y2 y3 y4
 have hl0:0<args.length:=by omega
 have HC:=hid (h.below (al1 w (.cells #[.int .i64 8,.int .i64 nn,.int .i64 m,.int .i64 at_,.slice (some ⟨b,off,none⟩) args.length k1] 253)));have HV:=hid (zdr (a1:=ay) (k1:=ky) (hV _ (zak (by omega))) (h.below (al1 w (.cells #[.int .i64 8,.int .i64 nn,.int .i64 m,.int .i64 at_,.slice (some ⟨b,off,none⟩) args.length k1] 253))) (dY.later (al1 w _)) (hN _ (zak (by omega))));have hk:=zem (zd4 cx n c.u loc k (argN args 0));obtain ⟨b',off',az,kz,he, -, -,dZ,cZ⟩:=zc3 hD 1 (by omega);cases he;simp only [vdo] at cZ;have HV2:=hid (fun vo s (w':World) (hC:Cn n w' B base cx K vo s c loc ret) dZ=>zdr (a1:=az) (k1:=kz) (hV _ (zak (i:=1) (by omega))) hC dZ (hN _ (zak (by omega))));have hk2:=zem (zd4 cx n c.u loc k (argN args 1))
 have hl1:1<args.length:=by omega
 have HB:=hid (fun vo' w1 (hf:Fm B K.D vo vo' (w.alloc (.cells #[.int .i64 8,.int .i64 nn,.int .i64 m,.int .i64 at_,.slice (some ⟨b,off,none⟩) args.length k1] 253)) w1)=>(HC.out.keepS hf (b:=w.heap.size) (x:=(.cells #[.int .i64 8,.int .i64 nn,.int .i64 m,.int .i64 at_,.slice (some ⟨b,off,none⟩) args.length k1] 253)) (heap_alloc_new w _) h.new.1 h.new.2).1);have HZ:=hid (fun vo' w1 (hf:Fm B K.D vo vo' (w.alloc (.cells #[.int .i64 8,.int .i64 nn,.int .i64 m,.int .i64 at_,.slice (some ⟨b,off,none⟩) args.length k1] 253)) w1)=>cZ w1 ((HC.out.keepB hf hb (by simp;omega)).trans ((al1 w _).block b hbz)));have HD:=hid (fun vo' w1 (hf:Fm B K.D vo vo' (w.alloc (.cells #[.int .i64 8,.int .i64 nn,.int .i64 m,.int .i64 at_,.slice (some ⟨b,off,none⟩) args.length k1] 253)) w1)=>HC.out.dat hf (dZ.later (al1 w _)));rw [vN8];generalize holdS (vN (En cx n) cx c.u loc k (argN args 0))=F0 at *
 generalize holdS (vN (En cx n) cx c.u loc k (argN args 1))=F1 at *;generalize argN args 1=z at *;generalize argN args 0=y at *;clear h hV hD hN dY cY hl hb;clear cZ dZ;go_enter Tryz.func262,Tryz.ntmps262;go_wp2_with fail;refine HV.out.mono ?_;intro e w1 hS
 rcases HC.out.step hk hS with ⟨k',s',vo',hr,rfl,hf,hw⟩ | ⟨v,s',vo',hr,rfl,hf,hw⟩
 . exact ⟨rfl,Sr.no ((Fm.below (al1 w _)).trans hf) (za7 hr) hw⟩
 . have HF:=hid ((Fm.below (al1 w _)).trans hf)
   have HR:=hid hr;have HW:=hid hw;obtain ⟨z0,z1,z2,z3,z4⟩:=HZ.out _ _ hf;obtain ⟨x0,x1,x2,x3,x4, -⟩:=zad (HB.out _ _ hf);have HV3:=hid (HV2.out _ _ _ hw (HD.out _ _ hf));clear hr hf hw hS HV HB HZ HD HV2;unfold zw7
   cases v with
   | true=>
     clear z0 z1 z2 z3 z4 x0 x1 x2 x3 x4
     go_wp2_with (go_at_call 227;refine (zcu _ _).mono ?_;rintro e w' ⟨rfl,rfl⟩)
     go_returns
     exact Sr.ok (rep:=zdw) (a:=1) HF.out ((zay (f:=fun b s=>if b=true then .ok 1 s else (F1 s).bind fun b s=>.ok (zbv b) s) HR.out).trans (if_pos rfl)) HW.out.wd
   | false=>
     go_wp2_with fail;refine HV3.out.mono ?_;intro e w2 hS
     rcases HW.out.step hk2 hS with ⟨k',s2,vo2,hr2,rfl,hf2,hw2⟩ | ⟨v,s2,vo2,hr2,rfl,hf2,hw2⟩
     . exact ⟨rfl,Sr.no (HF.out.trans hf2) ((zay (f:=fun b s=>if b=true then .ok 1 s else (F1 s).bind fun b s=>.ok (zbv b) s) HR.out).trans ((if_neg (by decide)).trans (za7 hr2))) hw2⟩
     . have HE:=hid (Sr.ok (rep:=zdw) (HF.out.trans hf2) ((zay (f:=fun b s=>if b=true then .ok 1 s else (F1 s).bind fun b s=>.ok (zbv b) s) HR.out).trans ((if_neg (by decide)).trans (zay (f:=fun b s=>.ok (zbv b) s) hr2))) hw2.wd)
       clear hr2 hf2 hw2 hS z0 z1 z2 z3 z4 x0 x1 x2 x3 x4;unfold zw7
       go_wp2_with (go_at_call 227;refine (zcu _ _).mono ?_;rintro e w' ⟨rfl,rfl⟩)
       go_returns
       exact HE.out
theorem z4k {n B base:Nat} {cx:Cx} {K:Wk} {k:Nat} {nn m at_:Int} {args:List Nd} {c:Ca} {loc:List Int} {ret:Int} {vo:Value} {s:Sw} {a1:OA} {k1:Nat} {w:World} {op:Int} (hV:∀ y ∈ args,NdV n B base cx K k y) (h:Cn n w B base cx K vo s c loc ret) (hD:DAt w (·<base) a1 args.length (zcl args)) (hN:∀ y ∈ args,okN cx c.u loc.length K.cd k y) (hl:args.length=2) (ho1:9<=op) (ho2:op<=15) :
 Calls Tryz.prog 262 #[.pointer (some ⟨c.C,0,none⟩),.agg #[.int .i64 op,.int .i64 nn,.int .i64 m,.int .i64 at_,.slice a1 args.length k1]] w fun e w'=>Sr zdw B base cx K w vo (vN (En cx n) cx c.u loc (k+1) ⟨op,nn,m,at_,args⟩ s) e w':=by
 rw [vNB _ _ _ _ _ _ _ _ _ _ _ ho1 ho2];have o1:(op == 1)=false:=beq_eq_false_iff_ne.2 (by omega);have o2:(op == 2)=false:=beq_eq_false_iff_ne.2 (by omega);have o16:(op == 16)=false:=beq_eq_false_iff_ne.2 (by omega);have o3:(op == 3)=false:=beq_eq_false_iff_ne.2 (by omega);have o4:(op == 4)=false:=beq_eq_false_iff_ne.2 (by omega);have o5:(op == 5)=false:=beq_eq_false_iff_ne.2 (by omega);have o6:(op == 6)=false:=beq_eq_false_iff_ne.2 (by omega);have o7:(op == 7)=false:=beq_eq_false_iff_ne.2 (by omega);have o8:(op == 8)=false:=beq_eq_false_iff_ne.2 (by omega);clear ho1 ho2;obtain ⟨b,off,ay,ky,rfl,hb,hbz,dY,cY⟩:=zc3 hD 0 (by omega);obtain ⟨y0,y1,y2,y3,y4⟩:=cY w rfl;simp only [vbh,vbl] at y0 y1 y2 y3 y4
 have hl0:0<args.length:=by omega
 have HC:=hid (h.below (al1 w (.cells #[.int .i64 op,.int .i64 nn,.int .i64 m,.int .i64 at_,.slice (some ⟨b,off,none⟩) args.length k1] 253)));have HV:=hid (hV _ (zak (i:=0) (by omega)) c loc ret vo s ay ky _ (h.below (al1 w (.cells #[.int .i64 op,.int .i64 nn,.int .i64 m,.int .i64 at_,.slice (some ⟨b,off,none⟩) args.length k1] 253))) (dY.later (al1 w _)) (hN _ (zak (by omega))));have hk:=zd4 cx n c.u loc k (argN args 0);obtain ⟨b',off',az,kz,he, -, -,dZ,cZ⟩:=zc3 hD 1 (by omega);cases he;simp only [vdo] at cZ;have HV2:=hid (fun vo s (w':World) (hC:Cn n w' B base cx K vo s c loc ret) dZ=>hV _ (zak (i:=1) (by omega)) c loc ret vo s az kz w' hC dZ (hN _ (zak (by omega))));have hk2:=zd4 cx n c.u loc k (argN args 1)
 have hl1:1<args.length:=by omega
 have HB:=hid (fun vo' w1 (hf:Fm B K.D vo vo' (w.alloc (.cells #[.int .i64 op,.int .i64 nn,.int .i64 m,.int .i64 at_,.slice (some ⟨b,off,none⟩) args.length k1] 253)) w1)=>HC.out.keepS hf (b:=w.heap.size) (x:=(.cells #[.int .i64 op,.int .i64 nn,.int .i64 m,.int .i64 at_,.slice (some ⟨b,off,none⟩) args.length k1] 253)) (heap_alloc_new w _) h.new.1 h.new.2);have HZ:=hid (fun vo' w1 (hf:Fm B K.D vo vo' (w.alloc (.cells #[.int .i64 op,.int .i64 nn,.int .i64 m,.int .i64 at_,.slice (some ⟨b,off,none⟩) args.length k1] 253)) w1)=>(HC.out.keepB hf hb (by simp;omega)).trans ((al1 w (.cells #[.int .i64 op,.int .i64 nn,.int .i64 m,.int .i64 at_,.slice (some ⟨b,off,none⟩) args.length k1] 253)).block b hbz));have HD:=hid (fun vo' w1 (hf:Fm B K.D vo vo' (w.alloc (.cells #[.int .i64 op,.int .i64 nn,.int .i64 m,.int .i64 at_,.slice (some ⟨b,off,none⟩) args.length k1] 253)) w1)=>HC.out.dat hf (dZ.later (al1 w _)))
 have HZc:=hid cZ;have hS0:=h.new.1;have hb0:=hb;generalize vN (En cx n) cx c.u loc k (argN args 0)=F0 at *;generalize vN (En cx n) cx c.u loc k (argN args 1)=F1 at *;generalize argN args 1=z at *;generalize argN args 0=y at *;clear h hV hD hN dY cY hl hb cZ dZ;go_enter Tryz.func262,Tryz.ntmps262;go_wp2_with fail;refine HV.out.mono ?_;intro e w1 hS
 rcases HC.out.step hk hS with ⟨k',s',vo1,hr,rfl,hf,hw⟩ | ⟨v,s1,vo1,hr,rfl,hf,hw⟩
 . exact ⟨rfl,Sr.no ((Fm.below (al1 w _)).trans hf) (za7 hr) hw⟩
 . have HF:=hid ((Fm.below (al1 w _)).trans (hf.trans (Fm.below (bdrew w1))))
   have HR:=hid hr;have HW:=hid (hw.below (bdrew w1));have HX:=hid (HB.out _ _ hf)
   have HS:Hid (∀ W:World,W.heap[w.heap.size]? = w1.heap[w.heap.size]?->W.heap[b]? = w1.heap[b]?->W.cell? ⟨w.heap.size,0,none⟩=some (.int .i64 op)/\W.cell? ⟨w.heap.size,4,none⟩=some (.slice (some ⟨b,off,none⟩) args.length k1)/\W.cell? ⟨b,off+5,none⟩=some (.int .i64 z.op)/\W.cell? ⟨b,off+5+1,none⟩=some (.int .i64 z.n)/\W.cell? ⟨b,off+5+2,none⟩=some (.int .i64 z.m)/\W.cell? ⟨b,off+5+3,none⟩=some (.int .i64 z.at_)/\W.cell? ⟨b,off+5+4,none⟩=some (.slice az z.args.length kz)):=fun W e1 e2=>by
    obtain ⟨x0,x1,x2,x3,x4, -⟩:=zad (e1.trans HX.out.1);obtain ⟨z0,z1,z2,z3,z4⟩:=HZc.out W (e2.trans (HZ.out _ _ hf));exact ⟨x0,x4,z0,z1,z2,z3,z4⟩
   have HV3:=hid (HV2.out _ _ _ HW.out ((HD.out _ _ hf).later (bdrew w1)))
   have HK:Hid (∀ vo' w2,Fm B K.D vo1 vo' w1.drew w2->w2.heap[w.heap.size]? = w1.heap[w.heap.size]?/\w2.heap[b]? = w1.heap[b]?):=fun vo' w2 hf2=>⟨(HW.out.keepS hf2 (b:=w.heap.size) HX.out.1 hS0 HX.out.2).1.trans HX.out.1.symm,HW.out.keepB hf2 hb0 (vac hbz (HF.out.size))⟩
   clear hr hf hw hS HV HB HZ HD HV2 HZc;unfold zdw;go_wp2_with fail
   go_region_held (fun W=>W.cell? ⟨w.heap.size,0,none⟩=some (.int .i64 op)/\W.cell? ⟨w.heap.size,4,none⟩=some (.slice (some ⟨b,off,none⟩) args.length k1)/\W.cell? ⟨b,off+5,none⟩=some (.int .i64 z.op)/\W.cell? ⟨b,off+5+1,none⟩=some (.int .i64 z.n)/\W.cell? ⟨b,off+5+2,none⟩=some (.int .i64 z.m)/\W.cell? ⟨b,off+5+3,none⟩=some (.int .i64 z.at_)/\W.cell? ⟨b,off+5+4,none⟩=some (.slice az z.args.length kz)) (first | exact HS.out _ rfl rfl | exact HS2.out)
    (first
      | (go_at_call 262;refine HV3.out.mono ?_;intro e w2 hS;rcases HW.out.step hk2 hS with ⟨k',s2,vo2,hr2,rfl,hf2,hw2⟩ | ⟨v2,s2,vo2,hr2,rfl,hf2,hw2⟩;(exact ⟨rfl,Sr.no (HF.out.trans hf2) ((zay HR.out).trans (za7 hr2)) hw2⟩);(have HS2:=hid (HS.out w2 (HK.out _ _ hf2).1 (HK.out _ _ hf2).2);have HF2:=hid (HF.out.trans hf2);have HR2:=hid hr2;have HW2:=hid hw2;clear hr2 hf2 hw2 hS;unfold zdw))
      | (go_at_call 278;refine (z1m _ _ _ _).mono ?_;rintro e w' ⟨rfl,rfl⟩))
   have HP:=hid (za2 HW2.out.cl)
   cases ho:ofS op v v2 with
   | some r=>
     simp only [vba,Option.isSome_some];go_wp2_with fail
     go_returns
     exact Sr.ok (rep:=zdw) HF2.out ((zay HR.out).trans ((zay HR2.out).trans (by rw [ho]))) HW2.out.wd
   | none=>
     simp only [Option.getD_none,Option.isSome_none];obtain ⟨p0,p1,p2,p3,pz,pf⟩:=HP.out;go_wp2_with fail;refine (zft B base cx K _ _ 1 _ HW2.out.wd).mono ?_;rintro e w3 ⟨rfl,hg,hw⟩;exact ⟨rfl,Sr.no (HF2.out.trans (Fm.grown hg)) ((zay HR.out).trans ((zay HR2.out).trans (by rw [ho]))) hw⟩
set_option maxHeartbeats 12800000
abbrev zC:Obj:=.cells #[.string ⟨#[]⟩,.slice none 0 0,.int .i64 0,.slice none 0 0,.slice none 0 0,.slice none 0 0,.int .i64 0] 62
abbrev zV:Value:=.agg #[.string ⟨#[]⟩,.slice none 0 0,.int .i64 0,.slice none 0 0,.slice none 0 0,.slice none 0 0,.int .i64 0]
structure OvLo (w:World) (lo:Nat) (o:Ob) (x1:OA) (x3:OA) (x4:OA) (x5:OA):Prop where
 wn:o.name.size<=maxLen
 uses:DAt w (lo<=·) x1 o.uses.length (zal o.uses)
 wd:(Lit.int .i64 o.data).wf=true
 code:DAt w (lo<=·) x3 o.code.length (z3t o.code)
 fixes:DAt w (lo<=·) x4 o.fixes.length (z3u o.fixes)
 entries:DAt w (lo<=·) x5 o.entries.length (zdx o.entries)
 wm:(Lit.int .i64 o.main).wf=true
theorem OvLo.moves {w w':World} {lo lo':Nat} {o:Ob} {x1 x3 x4 x5:OA} (h:OvLo w lo o x1 x3 x4 x5) (m:zag w (lo<=·) w' (lo'<=·)):OvLo w' lo' o x1 x3 x4 x5:=
 ⟨h.wn,h.uses.moves m,h.wd,h.code.moves m,h.fixes.moves m,h.entries.moves m,h.wm⟩
end Go.Proofs.YtndkhgakfodldaaGreatDoor
