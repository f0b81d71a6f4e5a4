import Derived.Test.YtndkhgakfodldaaGreatDoorMxOpt
import Derived.Deep.RegionLaw
set_option maxRecDepth 100000
set_option maxHeartbeats 800000
open Go.Proofs.Tryz
open List renaming length → ln
namespace Go.Proofs.YtndkhgakfodldaaGreatDoor
namespace Mx
open Go.RowKit
theorem EU (w:World) (x y:Value) (t:TypeId):∀ j u,[x,y][j]? = some u->(w.alloc (.cells #[x,y] t)).cell? ((⟨w.heap.size,0,none⟩:Addr).add j)=some u:=
 World.news_of_block (cs:=#[x,y]) (_root_.Go.heap_alloc_new w (.cells #[x,y] t))
theorem EV (B R:Nat) (c:Mc.Cfg) (w0:World) (s:Mc.St) (to:Int) (w:World) (h:fb B R c w0 w s) :
 Calls prog 229 #[.pointer (some ⟨R,0,none⟩),.int .i64 to] w (eP B R c w0 (Mc.call c.mt to s) fW):=by
 have aq:Hid (fb B R c w0 w s):=h;clear h;obtain ⟨bx,X,al,b0,bl⟩:=info_parts EJ;go_enter func229,ntmps229;go_wp2_with fail;refine (tick_any B R c w0 s _ aq).mono ?_;intro e eq ah
 rcases ah.parts with ⟨_,D,z,rfl,Hm⟩ | ⟨D,z,rfl,Hm⟩<;>clear ah<;>simp only [fW]
 . have A:Hid (Mc.call c.mt to s=if 24<ln D.gs+1 then Mc.halt 4 D else .ok () { D with gs:=D.gs++[(D.lo,D.bk)],lo:=[],bk:=D.pc,pc:=to }):=bind_ok _ z.out
   clear z aq;obtain ⟨x,⟨q,E,K,fr,Y,y,ou⟩,h⟩:=Hm.out;obtain ⟨g,I,a7,ay,hmax,hBg,cM,ao,aQ,hcell⟩:=h.fr.place (by omega);simp only at a7;subst a7;obtain ⟨ae,a,a7,hlcap,hlmax⟩:=h.lo.form;simp only at a7;subst a7;have ar:Hid (eX B R c w0 eq x ⟨q,E,.slice ae (fz D.gs++D.lo).length a,.slice (some ⟨g,0,none⟩) (ln D.gs+1) I,Y,y,ou⟩ D):=h;obtain ⟨-,a9, -,c3,am, -, -, -, -, -, -, -,m,ag⟩:=h.cell;simp only at c3 am;have d:=h.bgs;have b:=h.locals_le;have ak:=h.ltR;unfold maxLen at hmax hlmax;clear h hcell
   by_cases ez:24<ln D.gs+1
   . have O:Hid (Mc.call c.mt to s = .stop { D with en:=4 }):=A.trans (if_pos ez)
     generalize (ln D.gs)=k at *;go_wp2_with fail;refine (sj 4 _ Hm.out).mono ?_;rintro e w2 ⟨rfl,a8⟩;go_wp2_with fail;exact ⟨rfl,eP.stop O rfl a8⟩
   . have O:Hid (Mc.call c.mt to s = .ok () { D with gs:=D.gs++[(D.lo,D.bk)],lo:=[],bk:=D.pc,pc:=to }):=A.trans (if_neg ez)
     clear A;generalize N:ln D.gs=k at *;have a6:=hid N;generalize U:(fz D.gs++D.lo).length=n at *;have aF:=hid U;clear N U;go_wp2_with fail
     have aW:∀ o,(eq.drew.alloc o).ownsRow B 231 2 (.slice (some ⟨g,0,none⟩) (k+1) I) (k+1) (iR 0 (D.gs++[(D.lo,D.bk)])):=fun o=>by
      have:=(ar.drew.alloc o).fr.own;rw [a6.out] at this;exact this
     have b8:Hid (∀ (bf H:Nat) (o:Obj) (w2:World),(eq.drew.alloc o).grownBy w2 (Value.ownBlock (.slice (some ⟨g,0,none⟩) (k+1) I))->w2.ownsRow B 231 2 (.slice (some ⟨bf,0,none⟩) (k+1+1) H) (k+1+1) (iR 0 (D.gs++[(D.lo,D.bk)])++[.int .i64 n,.int .i64 D.pc])->(Value.ownBlock (.slice (some ⟨g,0,none⟩) (k+1) I)=some bf\/bf=eq.heap.size+1)->
      eX B R c w0 ((w2.setCell ⟨R,4,none⟩ (.slice (some ⟨bf,0,none⟩) (k+1+1) H)).setCell ⟨R,1,none⟩ (.int .i64 to)) (mj (eq.drew.alloc o) x 4) ⟨q,E,.slice ae n a,.slice (some ⟨bf,0,none⟩) (k+1+1) H,Y,y,ou⟩ { D with gs:=D.gs++[(D.lo,D.bk)],lo:=[],bk:=D.pc,pc:=to }):=fun bf H o w2 af aa aj=>by
      have F:=ar.blo;have l:=ar.bfr;refine ((ar.drew.alloc o).setFr (gs:=D.gs++[(D.lo,D.bk)]) (l:=[]) (b:=D.pc) af ?_ (fun j e ac=>wh (H:=eq.heap.size+1) aj j e (by simpa using ac)) (by simp) (by rw [len_snoc,a6.out];omega) ?_ (by rw [wa,List.append_nil])).setPc to
      . rw [len_snoc,a6.out,qW,wa,Nat.zero_add,aF.out]
        exact aa
      . intro f ag
        rcases List.mem_append.1 ag with h | h
        . exact l f h
        . rw [List.mem_singleton.1 h];exact F
     have cg:=hid aW;clear aW
     go_region_law (refine step_append_lies _ (by rfl) _ _ _ (by rfl) B 231 bx _ 2 16 Tryz.underlying166 X al b0 bl rfl (by omega) (.slice (some ⟨g,0,none⟩) (k+1) I) (k+1) (iR 0 (D.gs++[(D.lo,D.bk)])) (by rfl) (cg _) ⟨eq.heap.size,0,none⟩ 1 1 [.int .i64 n,.int .i64 D.pc] (by rfl) (by rfl) (EU _ _ _ _) (by simp;exact ⟨rfl,rfl⟩) (by omega) (by unfold maxLen;omega) (by omega) (by have:=ar.hB;simp;omega) (eq.heap.size+1) (by simp) ?_;intro bf H w2 hown1 af a5 a1;obtain ⟨t,ff,fl⟩:=(ar.drew.alloc _).far (fun k e=>ar.fr.mark k e) (by decide) af;have u:=(t 4).trans (ar.drew.alloc _).cell.2.2.2.2.1;have p:=ff 4;have i:=(t 1).trans (ar.drew.alloc _).cell.2.1;have r:=ff 1;have aG:=hid hown1;have aE:=hid af;have P:=hid a5;clear hown1 af a5 t ff)
     all_goals
      go_wp2_with fail
      go_returns
      exact eP.ok O rfl ⟨_,_,b8 bf H _ w2 aE aG P⟩
 . go_wp2_with fail
   exact ⟨rfl,eP.of_stop (jP _ z.out) Hm.out⟩
open Go.RowKit
theorem eX.cutFrame {B R:Nat} {c:Mc.Cfg} {w0 w:World} {T:Nat->Nat} {v:Vs} {s:Mc.St} {Z:List (List Int × Int)} {f:List Int × Int} {az ae:Option Addr} {t l:Nat} (h:eX B R c w0 w T v s) (d:s.gs=Z++[f])
 (ag:v.fr = .slice az (ln s.gs+1) t) (a2:v.lo = .slice ae (fz s.gs++s.lo).length l) :
 eX B R c w0 (((w.setCell ⟨R,4,none⟩ (.slice az (ln Z+1) t)).setCell ⟨R,3,none⟩ (.slice ae (fz s.gs).length l)).setCell ⟨R,1,none⟩ (.int .i64 s.bk)) T { v with fr:=.slice az (ln Z+1) t,lo:=.slice ae (fz s.gs).length l } { s with gs:=Z,lo:=f.1,bk:=f.2,pc:=s.bk }:=by
 have N:∀ m,m≠1->∀ k,k<w.heap.size->T k=m->(((w.setCell ⟨R,4,none⟩ (.slice az (ln Z+1) t)).setCell ⟨R,3,none⟩ (.slice ae (fz s.gs).length l)).setCell ⟨R,1,none⟩ (.int .i64 s.bk)).heap[k]? = w.heap[k]?:=fun m a8 k _ e=>by
  have aV:k≠R:=fun A=>by subst A;exact a8 (e.symm.trans h.tR)
  rw [Below.heap_setCell _ _ _ k aV,Below.heap_setCell _ _ _ k aV,Below.heap_setCell _ _ _ k aV]
 have a:fz Z++f.1=fz s.gs:=by rw [d,wa]
 have aT:ln s.gs=ln Z+1:=by rw [d,len_snoc]
 have q:=h.bgs
 exact { h with
  blk:=by rw [heap_set (heap_set (heap_set h.blk _) _) _];rfl
  st:=h.st.keep (N 2 (by decide)) (fun _ _ e=>e)
  lo:=by
   have G:=(h.lo.cut (m:=(fz s.gs).length) (by rw [List.length_append];omega) a2).keep (N 3 (by decide)) (fun _ _ e=>e);rw [Nat.mul_one,tD,List.take_left] at G;rw [a];exact G
  fr:=by
   have G:=(h.fr.cut (m:=ln Z+1) (by omega) ag).keep (N 4 (by decide)) (fun _ _ e=>e)
   have e:(iR 0 (s.gs++[(s.lo,s.bk)])).take ((ln Z+1)*2)=iR 0 (Z++[f]):=by rw [← aT,EI,d]
   rw [e] at G;exact G
  da:=h.da.keep (N 5 (by decide)) (fun _ _ e=>e)
  ou:=h.ou.keep (N 6 (by decide)) (fun _ _ e=>e)
  below:=((h.below.setCell (p:=⟨R,4,none⟩) h.hR _).setCell (p:=⟨R,3,none⟩) h.hR _).setCell (p:=⟨R,1,none⟩) h.hR _
  bgs:=by show ln Z<=24;omega
  bfr:=fun g af=>h.bfr g (by rw [d];exact List.mem_append.2 (Or.inl af))
  blo:=h.bfr f (by rw [d];exact List.mem_append.2 (Or.inr (List.mem_singleton.2 rfl))) }
theorem EW (B R:Nat) (c:Mc.Cfg) (w0:World) (s:Mc.St) (w:World) (h:fb B R c w0 w s) :
 Calls prog 231 #[.pointer (some ⟨R,0,none⟩)] w (eP B R c w0 (Mc.ret s) fW):=by
 have aq:Hid (fb B R c w0 w s):=h;obtain ⟨x,⟨q,E,K,fr,Y,y,ou⟩,h⟩:=h;obtain ⟨g,I,a7,ay,hmax,hBg,cM,ao,aQ,hcell⟩:=h.fr.place (by omega);simp only at a7;subst a7;obtain ⟨ae,a,a7,hlcap,hlmax⟩:=h.lo.form;simp only at a7;subst a7;have ar:Hid (eX B R c w0 w x ⟨q,E,.slice ae (fz s.gs++s.lo).length a,.slice (some ⟨g,0,none⟩) (ln s.gs+1) I,Y,y,ou⟩ s):=h;have P:Hid (Calls prog 276 #[.pointer (some ⟨R,0,none⟩)] w fun e r=>e = .returned (.agg #[.int .i64 ((fz s.gs).length:Nat),.int .i64 s.bk])/\Below w.heap.size w r):=wj B R c w0 s w x _ h;have d:=h.bgs;have b:=h.locals_le;have ak:=h.ltR;obtain ⟨-,a9, -,c3,am, -, -, -, -, -, -, -, -,ag⟩:=h.cell;simp only at c3 am;unfold maxLen at hmax hlmax;clear hcell h
 cases a2:s.gs.getLast? with
 | none=>
   have A:Hid (Mc.ret s = .stop { s with en:=6 }):=by show Mc.ret s=_;unfold Mc.ret;rw [a2];rfl
   have a3:ln s.gs=0:=by rw [List.getLast?_eq_none_iff.1 a2];rfl
   rw [a3] at am;clear a2 a3 ar P;go_enter func231,ntmps231;go_wp2_with fail;refine (pg _ _ (by first | rfl | (simp;done) | (simp;omega)) aq).mono ?_;rintro e w2 ⟨rfl,a8⟩;go_wp2_with fail;exact ⟨rfl,eP.stop A rfl a8⟩
 | some f=>
   have A:Hid (Mc.ret s = .ok () { s with gs:=s.gs.dropLast,lo:=f.1,bk:=f.2,pc:=s.bk }):=by show Mc.ret s=_;unfold Mc.ret;rw [a2]
   have aE:Hid (s.gs=s.gs.dropLast++[f]):=by
    show s.gs=_;obtain ⟨M,e⟩:=List.getLast?_eq_some_iff.1 a2;rw [e,List.dropLast_concat]
   generalize N:ln s.gs.dropLast=k at *
   have D:ln s.gs=k+1:=by rw [aE.out,len_snoc,N]
   have a6:=hid N;have H:=hid D;rw [D] at am ay d;generalize a8:(fz s.gs).length=m at *;have L:=hid a8
   have U:(fz s.gs++s.lo).length=m+ln s.lo:=by rw [List.length_append,a8]
   rw [U] at c3 hlcap b;generalize (ln s.lo)=n at *;have aF:=hid U;clear a2 N D a8 U;go_enter func231,ntmps231;go_wp2_with fail;refine (lc _ _ _ (by first | (simp;done) | (simp;omega))).mono ?_;rintro e r ⟨rfl,rfl⟩;go_wp2_with fail;refine P.mono ?_;rintro e eq ⟨rfl,F⟩;have aL:=(F.cell (p:=⟨R,1,none⟩) ak).trans a9;have bd:=(F.cell (p:=⟨R,3,none⟩) ak).trans c3;have z:=(F.cell (p:=⟨R,4,none⟩) ak).trans am;have aw:=(F.frozen (p:=⟨R,1,none⟩) ak).trans (ag 1);have b4:=(F.frozen (p:=⟨R,3,none⟩) ak).trans (ag 3);have b8:=(F.frozen (p:=⟨R,4,none⟩) ak).trans (ag 4);have aS:=F.size
   have i:R<eq.heap.size:=by omega
   have aV:=(Nat.ne_of_lt i)
   go_wp2_with fail
   go_region
   go_wp2_with fail
   go_region
   go_wp2_with fail
   go_returns
   have G:=(ar.later F ar.hB).cutFrame aE rfl rfl;rw [a6.out,L.out] at G;exact eP.ok A rfl ⟨_,_,((G.alloc _).drew).drew⟩
end Mx
end Go.Proofs.YtndkhgakfodldaaGreatDoor
