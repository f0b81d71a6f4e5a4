import Derived.Test.YtndkhgakfodldaaGreatDoorLi
import Derived.Test.YtndkhgakfodldaaGreatDoorZb
import Derived.Test.YtndkhgakfodldaaGreatDoorLinkRightFc
namespace Go.Proofs.YtndkhgakfodldaaGreatDoor
set_option maxRecDepth 100000
open Go.ChangeShapes Go.WideShapes Go.ChangeAt Go.RowKit Go.Deep
set_option linter.unusedVariables false
theorem linkRight_contract (H:Type) (enc:TypeId × Value->H) (W:World) (base:Nat) (args:Array Value) (ds gs:List (DataW H)) (before:List MemPlace)
 (FG:∀ (j:Nat) t v,Tryz.f13.params[j]? = some t->args[j]? = some v->Value.okWide Tryz.prog W .any base t v)
 (hW:DataW.Whole enc Tryz.prog Tryz.f13.params.toList Rows.linkRightSpec.vars false W args.toList ds gs before) (IX:(DataW.weightsEach Tryz.prog (Tryz.f13.params.toList++(OpenSpec.ofChange Rows.linkRightSpec).bare.plain.varTypes Tryz.prog) (ds++gs)).all (·<=reachBytes)=true) :
 qc 13 args W fun e W'=>∃ v,e = .returned v/\Rows.linkRightSpec.post enc Tryz.prog Tryz.f13 false true false false W args v W':=by
 have Mm:=hW;obtain ⟨p,q,hA0,hV,rfl,CY,Ip⟩:=hW;have hA:DataW.TrodAll enc Tryz.prog W 0 (fun _=>true) true Tryz.f13.params.toList args.toList ds p:=hA0;have Ce:(DataW.weightsEach Tryz.prog (Tryz.f13.params.toList++(OpenSpec.ofChange Rows.linkRightSpec).bare.plain.varTypes Tryz.prog) (ds++gs)).all (·<=reachBytes)=true:=IX;clear IX;rw [Tryz.params13] at hA FG Ce;obtain ⟨v0,vs0,d0,ds0,p0,q0,hargs,rfl,rfl,h0,r0⟩:=trodAll_cons hA;obtain ⟨rfl,rfl,rfl⟩:=trodAll_nil r0
 obtain rfl:args=#[v0]:=by cases args;simp_all
 obtain ⟨rfl,rfl⟩:=trodVars_none hV;clear hA0;simp only [vcl] at Mm Ce;have Eo:Okw 79 d0:=vas.2 (fun x hx=>vas.1 Ce x (DataW.weights_mem_each (j:=0) (t:=79) (d:=d0) rfl rfl x hx))
 have GQ:∀ x ∈ p0,x.block<W.heap.size:=fun x hx=>by simpa using Mm.lt x (by simp [hx])
 have Hi:∀ (W':World),qb W W'->DataW.Trod enc Tryz.prog W' 0 (fun b=>decide (b<W.heap.size)) true 79 _ d0 p0:=
  fun W' hn=>Below.trod zw6 (by kernel_rfl) (of_decide_eq_true (by kernel_rfl)) h0 hn GQ
 obtain ⟨Tj,ln0,cp0,rfl⟩:=okWide_slice Tryz.underlying79 (FG 0 79 v0 rfl rfl);obtain ⟨SZ,Ot⟩:=h0;obtain ⟨l0,Bm,GT⟩:=z3q (x:=(d0,p0)) Ot Eo;obtain ⟨Tl,cc0,hsl0,hD0⟩:=za0 Bm
 injection hsl0 with e10 e20 e30
 subst e10 e20 e30
 refine (zoi zoh l0 _ _ W ⟨hD0,GT _ _ _ rfl⟩).mono fun e W' ⟨he,hb⟩=>?_
 subst he;refine ⟨_,rfl,_,_,_,[],(p0++[]),[],Mm,?_,?_,rfl,hb.frame _,fun h=>by cases h⟩
 . exact trodAll_mk1 (shut_bool Tryz.underlying4 true)
 . exact trodAll_cons_mk (Hi _ hb) trodAll_mk0
theorem zl6 (os:Os):laidMet Tryz.prog Rows.linkRightRow.laid ((zly os).forCall (fun _ _=>0) ⟨#[],#[qs],[]⟩).memory:=
 laidMet_of_run' 8 (by kernel_rfl) (by kernel_rfl)
theorem zkq (os:Os) {H:Type} (enc:TypeId × Value->H):∃ EC,DataW.whole enc Tryz.prog ((zly os).forCall (fun _ _=>0) ⟨#[],#[qs],[]⟩).memory Tryz.f13.params.toList Rows.linkRightSpec.vars false #[Value.slice none 0 0].toList 8=some ([.nil],[],EC):=
 ⟨[],by kernel_rfl⟩
theorem zjk (os:Os) (started:os.Started) (H:Type) (enc:TypeId × Value->H) (F:Stop.Interp) :
 ReturnsInHanded {} Tryz.checked os 13 .any ((OpenSpec.ofChange Rows.linkRightSpec).preRow enc Tryz.prog Tryz.f13 Rows.linkRightRow.domain false Rows.linkRightRow.laid) (((OpenSpec.ofChange Rows.linkRightSpec).at F).post enc Tryz.prog Tryz.f13 false true false false):=by
 obtain ⟨EC,hx⟩:=zkq os enc
 refine returnsInHanded_of_row (C:=Tryz.checked) (s:=(OpenSpec.ofChange Rows.linkRightSpec)) z8c started (by kernel_rfl) Tryz.func13
  (witness_row_at (enc:=enc) (C:=Tryz.checked) false (zly os) #[qs] rfl (by kernel_rfl) (by kernel_rfl) (by kernel_rfl)
    (OpenSpec.preRow_of_cond 8 hx (by kernel_rfl) (fun k hk=>by cases hk) (by kernel_rfl) (zl6 os))) ?_
 intro W base args ds gs before FG hW _ hcond Ce hL _ _;exact linkRight_contract H enc W base args ds gs before FG hW Ce
theorem zl7:Rows.LinkRightSaid:=
 OpenClaim.holds_of_cond 13 Tryz.f13 rfl rfl rfl rfl rfl rfl rfl ⟨rfl,rfl,rfl,rfl,rfl⟩ rfl rfl rfl rfl rfl (by kernel_rfl) Tryz.func13 zjj
  (of_decide_eq_true (by kernel_rfl)) (by unfold Func.isWrapper;first | (rw [if_pos (by decide +kernel)];kernel_rfl) | (rw [if_neg (by decide +kernel)];exact ⟨rfl,rfl⟩))
  (fun os started H enc _ F=>by rw [OpenClaim.pre_eq_preRow];exact zjk os started H enc F)
theorem zkr (f:FuncId) (fn:Func) (hf:Tryz.pinned.checked.prog.funcNamed "bellwright/bellwrightlaw.LinkRight" = some f) (QC:Tryz.pinned.checked.prog.funcs[f]? = some fn) :
 false=Tryz.pinned.checked.prog.looks []/\∀ (j:Nat) t,fn.params[j]? = some t->Tryz.pinned.checked.prog.wantsStandIn t=false:=by
 obtain rfl:f=13:=vab ((show Tryz.prog.funcNamed "bellwright/bellwrightlaw.LinkRight" = some 13 by kernel_rfl).symm.trans hf) |>.symm
 obtain rfl:fn=Tryz.f13:=(vab (Tryz.func13.symm.trans QC)).symm;refine ⟨by kernel_rfl,fun j t ht=>?_⟩;rw [Tryz.params13] at ht;have hm:=Array.mem_of_getElem? ht;simp at hm;obtain rfl:=hm;exact (show Tryz.prog.wantsStandIn 79=false by kernel_rfl)
end Go.Proofs.YtndkhgakfodldaaGreatDoor
