import Derived.Test.YtndkhgakfodldaaGreatDoorLi
import Derived.Test.YtndkhgakfodldaaGreatDoorZb
import Derived.Test.YtndkhgakfodldaaGreatDoorLinkLinksFc
set_option maxRecDepth 100000
set_option linter.unusedVariables false
namespace Go.Proofs.YtndkhgakfodldaaGreatDoor
open Go.ChangeShapes Go.WideShapes Go.ChangeAt Go.RowKit Go.Deep
theorem Eo (H:Type) (enc:TypeId × Value->H) (M:World) (Y:Nat) (d:Array Value) (ds gs:List (DataW H)) (before:List MemPlace)
 (c:∀ (j:Nat) t v,Tryz.f12.params[j]? = some t->d[j]? = some v->Value.okWide Tryz.prog M .any Y t v)
 (L:DataW.Whole enc Tryz.prog Tryz.f12.params.toList Rows.linkLinksSpec.vars false M d.toList ds gs before) (b:(DataW.weightsEach Tryz.prog (Tryz.f12.params.toList++(OpenSpec.ofChange Rows.linkLinksSpec).bare.plain.varTypes Tryz.prog) (ds++gs)).all (·<=reachBytes)=true) :
 ew 12 d M fun e x=>∃ v,e = .returned v/\Rows.linkLinksSpec.post enc Tryz.prog Tryz.f12 false true false false M d v x:=by
 have a:=L;obtain ⟨y,R,hA0,aK,rfl,aQ,B⟩:=L;have aT:DataW.TrodAll enc Tryz.prog M 0 (fun _=>true) true Tryz.f12.params.toList d.toList ds y:=hA0;have O:(DataW.weightsEach Tryz.prog (Tryz.f12.params.toList++(OpenSpec.ofChange Rows.linkLinksSpec).bare.plain.varTypes Tryz.prog) (ds++gs)).all (·<=reachBytes)=true:=b;clear b;rw [Tryz.params12] at aT c O;obtain ⟨Z,vs0,b5,ds0,a6,av,hargs,rfl,rfl,a3,bg⟩:=trodAll_cons aT;obtain ⟨rfl,rfl,rfl⟩:=trodAll_nil bg
 obtain rfl:d=#[Z]:=by cases d;simp_all
 obtain ⟨rfl,rfl⟩:=trodVars_none aK;clear hA0;simp only [ot] at a O;have ai:kt 79 b5:=hJ.2 (fun q Q=>hJ.1 O q (DataW.weights_mem_each (j:=0) (t:=79) (d:=b5) rfl rfl q Q))
 have o:∀ q ∈ a6,q.block<M.heap.size:=fun q Q=>by simpa using a.lt q (by simp [Q])
 have f:∀ (x:World),et M x->DataW.Trod enc Tryz.prog x 0 (fun V=>decide (V<M.heap.size)) true 79 _ b5 a6:=
  fun x U=>Below.trod K5 (by kernel_rfl) (of_decide_eq_true (by kernel_rfl)) a3 U o
 obtain ⟨k,ln0,cp0,rfl⟩:=okWide_slice Tryz.underlying79 (c 0 79 Z rfl rfl);obtain ⟨m,a2⟩:=a3;obtain ⟨g,bq,l⟩:=KQ (x:=(b5,a6)) a2 ai;obtain ⟨i,cc0,hsl0,hD0⟩:=hY bq
 injection hsl0 with e10 e20 e30
 subst e10 e20 e30
 refine (Ef Ea Js g _ _ M ⟨hD0,l _ _ _ rfl⟩ (KR (x:=(b5,a6)) a2 _ _ _ rfl)).mono fun e x ⟨ah,F⟩=>?_
 subst ah;refine ⟨_,rfl,_,_,_,[],(a6++[]),[],a,?_,?_,rfl,F.frame _,fun h=>by cases h⟩
 . exact trodAll_mk1 (shut_bool Tryz.underlying4 true)
 . exact trodAll_cons_mk (f _ F) trodAll_mk0
theorem Ep (b:Os):laidMet Tryz.prog Rows.linkLinksRow.laid ((yj b).forCall (fun _ _=>0) ⟨#[],#[eu],[]⟩).memory:=
 laidMet_of_run' 8 (by kernel_rfl) (by kernel_rfl)
theorem Eq (b:Os) {H:Type} (enc:TypeId × Value->H):∃ e,DataW.whole enc Tryz.prog ((yj b).forCall (fun _ _=>0) ⟨#[],#[eu],[]⟩).memory Tryz.f12.params.toList Rows.linkLinksSpec.vars false #[Value.slice none 0 0].toList 8=some ([.nil],[],e):=
 ⟨[],by kernel_rfl⟩
theorem Er (b:Os) (started:b.Started) (H:Type) (enc:TypeId × Value->H) (l:Stop.Interp) :
 ReturnsInHanded {} Tryz.checked b 12 .any ((OpenSpec.ofChange Rows.linkLinksSpec).preRow enc Tryz.prog Tryz.f12 Rows.linkLinksRow.domain false Rows.linkLinksRow.laid) (((OpenSpec.ofChange Rows.linkLinksSpec).at l).post enc Tryz.prog Tryz.f12 false true false false):=by
 obtain ⟨e,Q⟩:=Eq b enc
 refine returnsInHanded_of_row (C:=Tryz.checked) (s:=(OpenSpec.ofChange Rows.linkLinksSpec)) K4 started (by kernel_rfl) Tryz.func12
  (witness_row_at (enc:=enc) (C:=Tryz.checked) false (yj b) #[eu] rfl (by kernel_rfl) (by kernel_rfl) (by kernel_rfl)
    (OpenSpec.preRow_of_cond 8 Q (by kernel_rfl) (fun k N=>by cases N) (by kernel_rfl) (Ep b))) ?_
 intro M Y d y a before c L _ hcond O am _ _;exact Eo H enc M Y d y a before c L O
theorem Es:Rows.LinkLinksSaid:=
 OpenClaim.holds_of_cond 12 Tryz.f12 rfl rfl rfl rfl rfl rfl rfl ⟨rfl,rfl,rfl,rfl,rfl⟩ rfl rfl rfl rfl rfl (by kernel_rfl) Tryz.func12 Ek
  (of_decide_eq_true (by kernel_rfl)) (by unfold Func.isWrapper;first | (rw [if_pos (by decide +kernel)];kernel_rfl) | (rw [if_neg (by decide +kernel)];exact ⟨rfl,rfl⟩))
  (fun b started c a _ l=>by rw [OpenClaim.pre_eq_preRow];exact Er b started c a l)
theorem Et (f:FuncId) (D:Func) (ag:Tryz.pinned.checked.prog.funcNamed "bellwright/bellwrightlaw.LinkLinks" = some f) (a:Tryz.pinned.checked.prog.funcs[f]? = some D) :
 false=Tryz.pinned.checked.prog.looks []/\∀ (j:Nat) t,D.params[j]? = some t->Tryz.pinned.checked.prog.wantsStandIn t=false:=by
 obtain rfl:f=12:=fe ((show Tryz.prog.funcNamed "bellwright/bellwrightlaw.LinkLinks" = some 12 by kernel_rfl).symm.trans ag) |>.symm
 obtain rfl:D=Tryz.f12:=(fe (Tryz.func12.symm.trans a)).symm;refine ⟨by kernel_rfl,fun j t aj=>?_⟩;rw [Tryz.params12] at aj;have a8:=Array.mem_of_getElem? aj;simp at a8;obtain rfl:=a8;exact (show Tryz.prog.wantsStandIn 79=false by kernel_rfl)
end Go.Proofs.YtndkhgakfodldaaGreatDoor
