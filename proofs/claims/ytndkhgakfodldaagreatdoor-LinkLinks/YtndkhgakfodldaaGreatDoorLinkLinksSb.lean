import Derived.Test.YtndkhgakfodldaaGreatDoorLi
import Derived.Test.YtndkhgakfodldaaGreatDoorZb
import Derived.Test.YtndkhgakfodldaaGreatDoorLinkLinksFc
namespace Go.Proofs.YtndkhgakfodldaaGreatDoor
set_option maxRecDepth 100000
open Go.ChangeShapes Go.WideShapes Go.ChangeAt Go.RowKit Go.Deep
set_option linter.unusedVariables false
theorem linkLinks_contract (H:Type) (enc:TypeId × Value->H) (W:World) (base:Nat) (args:Array Value) (ds gs:List (DataW H)) (before:List MemPlace)
 (Fg:∀ (j:Nat) t v,Tryz.f12.params[j]? = some t->args[j]? = some v->Value.okWide Tryz.prog W .any base t v)
 (hW:DataW.Whole enc Tryz.prog Tryz.f12.params.toList Rows.linkLinksSpec.vars false W args.toList ds gs before) (J1:(DataW.weightsEach Tryz.prog (Tryz.f12.params.toList++(OpenSpec.ofChange Rows.linkLinksSpec).bare.plain.varTypes Tryz.prog) (ds++gs)).all (·<=reachBytes)=true) :
 qc 12 args W fun e W'=>∃ v,e = .returned v/\Rows.linkLinksSpec.post enc Tryz.prog Tryz.f12 false true false false W args v W':=by
 have Mu:=hW;obtain ⟨p,q,hA0,hV,rfl,CS,Ie⟩:=hW;have hA:DataW.TrodAll enc Tryz.prog W 0 (fun _=>true) true Tryz.f12.params.toList args.toList ds p:=hA0;have Co:(DataW.weightsEach Tryz.prog (Tryz.f12.params.toList++(OpenSpec.ofChange Rows.linkLinksSpec).bare.plain.varTypes Tryz.prog) (ds++gs)).all (·<=reachBytes)=true:=J1;clear J1;rw [Tryz.params12] at hA Fg Co;obtain ⟨v0,vs0,d0,ds0,p0,q0,hargs,rfl,rfl,h0,r0⟩:=trodAll_cons hA;obtain ⟨rfl,rfl,rfl⟩:=trodAll_nil r0
 obtain rfl:args=#[v0]:=by cases args;simp_all
 obtain ⟨rfl,rfl⟩:=trodVars_none hV;clear hA0;simp only [vdb] at Mu Co;have Ed:Okw 79 d0:=var.2 (fun x hx=>var.1 Co x (DataW.weights_mem_each (j:=0) (t:=79) (d:=d0) rfl rfl x hx))
 have GE:∀ x ∈ p0,x.block<W.heap.size:=fun x hx=>by simpa using Mu.lt x (by simp [hx])
 have GV:∀ (W':World),qb W W'->DataW.Trod enc Tryz.prog W' 0 (fun b=>decide (b<W.heap.size)) true 79 _ d0 p0:=
  fun W' hn=>Below.trod zvu (by kernel_rfl) (of_decide_eq_true (by kernel_rfl)) h0 hn GE
 obtain ⟨TR,ln0,cp0,rfl⟩:=okWide_slice Tryz.underlying79 (Fg 0 79 v0 rfl rfl);obtain ⟨Tw,Mk⟩:=h0;obtain ⟨l0,Bn,GG⟩:=z2b (x:=(d0,p0)) Mk Ed;obtain ⟨TS,cc0,hsl0,hD0⟩:=zav Bn
 injection hsl0 with e10 e20 e30
 subst e10 e20 e30
 refine (znl znk zkx l0 _ _ W ⟨hD0,GG _ _ _ rfl⟩ (z44 (x:=(d0,p0)) Mk _ _ _ rfl)).mono fun e W' ⟨he,hb⟩=>?_
 subst he;refine ⟨_,rfl,_,_,_,[],(p0++[]),[],Mu,?_,?_,rfl,hb.frame _,fun h=>by cases h⟩
 . exact trodAll_mk1 (shut_bool Tryz.underlying4 true)
 . exact trodAll_cons_mk (GV _ hb) trodAll_mk0
theorem zlf (os:Os):laidMet Tryz.prog Rows.linkLinksRow.laid ((zk8 os).forCall (fun _ _=>0) ⟨#[],#[qs],[]⟩).memory:=
 laidMet_of_run' 8 (by kernel_rfl) (by kernel_rfl)
theorem zju (os:Os) {H:Type} (enc:TypeId × Value->H):∃ Ev,DataW.whole enc Tryz.prog ((zk8 os).forCall (fun _ _=>0) ⟨#[],#[qs],[]⟩).memory Tryz.f12.params.toList Rows.linkLinksSpec.vars false #[Value.slice none 0 0].toList 8=some ([.nil],[],Ev):=
 ⟨[],by kernel_rfl⟩
theorem ziy (os:Os) (started:os.Started) (H:Type) (enc:TypeId × Value->H) (F:Stop.Interp) :
 ReturnsInHanded {} Tryz.checked os 12 .any ((OpenSpec.ofChange Rows.linkLinksSpec).preRow enc Tryz.prog Tryz.f12 Rows.linkLinksRow.domain false Rows.linkLinksRow.laid) (((OpenSpec.ofChange Rows.linkLinksSpec).at F).post enc Tryz.prog Tryz.f12 false true false false):=by
 obtain ⟨Ev,hx⟩:=zju os enc
 refine returnsInHanded_of_row (C:=Tryz.checked) (s:=(OpenSpec.ofChange Rows.linkLinksSpec)) z6y started (by kernel_rfl) Tryz.func12
  (witness_row_at (enc:=enc) (C:=Tryz.checked) false (zk8 os) #[qs] rfl (by kernel_rfl) (by kernel_rfl) (by kernel_rfl)
    (OpenSpec.preRow_of_cond 8 hx (by kernel_rfl) (fun k hk=>by cases hk) (by kernel_rfl) (zlf os))) ?_
 intro W base args ds gs before Fg hW _ hcond Co hL _ _;exact linkLinks_contract H enc W base args ds gs before Fg hW Co
theorem zlg:Rows.LinkLinksSaid:=
 OpenClaim.holds_of_cond 12 Tryz.f12 rfl rfl rfl rfl rfl rfl rfl ⟨rfl,rfl,rfl,rfl,rfl⟩ rfl rfl rfl rfl rfl (by kernel_rfl) Tryz.func12 zix
  (of_decide_eq_true (by kernel_rfl)) (by unfold Func.isWrapper;first | (rw [if_pos (by decide +kernel)];kernel_rfl) | (rw [if_neg (by decide +kernel)];exact ⟨rfl,rfl⟩))
  (fun os started H enc _ F=>by rw [OpenClaim.pre_eq_preRow];exact ziy os started H enc F)
theorem zjv (f:FuncId) (fn:Func) (hf:Tryz.pinned.checked.prog.funcNamed "bellwright/bellwrightlaw.LinkLinks" = some f) (QA:Tryz.pinned.checked.prog.funcs[f]? = some fn) :
 false=Tryz.pinned.checked.prog.looks []/\∀ (j:Nat) t,fn.params[j]? = some t->Tryz.pinned.checked.prog.wantsStandIn t=false:=by
 obtain rfl:f=12:=vai ((show Tryz.prog.funcNamed "bellwright/bellwrightlaw.LinkLinks" = some 12 by kernel_rfl).symm.trans hf) |>.symm
 obtain rfl:fn=Tryz.f12:=(vai (Tryz.func12.symm.trans QA)).symm;refine ⟨by kernel_rfl,fun j t ht=>?_⟩;rw [Tryz.params12] at ht;have hm:=Array.mem_of_getElem? ht;simp at hm;obtain rfl:=hm;exact (show Tryz.prog.wantsStandIn 79=false by kernel_rfl)
end Go.Proofs.YtndkhgakfodldaaGreatDoor
