import Derived.Test.YtndkhgakfodldaaGreatDoorHn
import Derived.Test.YtndkhgakfodldaaGreatDoorZx
import Derived.Test.YtndkhgakfodldaaGreatDoorScopeResolvesFc
namespace Go.Proofs.YtndkhgakfodldaaGreatDoor
set_option maxRecDepth 100000
open Go.ChangeShapes Go.WideShapes Go.ChangeAt Go.RowKit Go.Deep
set_option linter.unusedVariables false
theorem scopeResolves_contract (H:Type) (enc:TypeId × Value->H) (W:World) (base:Nat) (args:Array Value) (ds gs:List (DataW H)) (before:List MemPlace)
 (hval:∀ (j:Nat) t v,Tryz.f4.params[j]? = some t->args[j]? = some v->Value.okWide Tryz.prog W .any base t v)
 (hW:DataW.Whole enc Tryz.prog Tryz.f4.params.toList Rows.scopeResolvesSpec.vars false W args.toList ds gs before) (hsz0:(DataW.weightsEach Tryz.prog (Tryz.f4.params.toList++(Rows.OpenSpec.upto Rows.scopeResolvesSpec).bare.plain.varTypes Tryz.prog) (ds++gs)).all (·<=reachBytes)=true) (hcnd:Rows.uptoBulkAll (ds++gs)<=1048576) :
 Calls Tryz.prog 4 args W fun e W'=>∃ v,e = .returned v/\Rows.scopeResolvesSpec.post enc Tryz.prog Tryz.f4 false true false false W args v W':=by
 have hW':=hW;obtain ⟨p,q,hA0,hV,rfl,hfz,hnd⟩:=hW;have hA:DataW.TrodAll enc Tryz.prog W 0 (fun _=>true) true Tryz.f4.params.toList args.toList ds p:=hA0;have hsz:(DataW.weightsEach Tryz.prog (Tryz.f4.params.toList++(Rows.OpenSpec.upto Rows.scopeResolvesSpec).bare.plain.varTypes Tryz.prog) (ds++gs)).all (·<=reachBytes)=true:=hsz0;clear hsz0;rw [Tryz.params4] at hA hval hsz;obtain ⟨v0,vs0,d0,ds0,p0,q0,hargs,rfl,rfl,h0,r0⟩:=trodAll_cons hA;obtain ⟨v1,vs1,d1,ds1,p1,q1,rfl,rfl,rfl,h1,r1⟩:=trodAll_cons r0;obtain ⟨rfl,rfl,rfl⟩:=trodAll_nil r1
 obtain rfl:args=#[v0,v1]:=by cases args;simp_all
 obtain ⟨rfl,rfl⟩:=trodVars_none hV;clear hA0;simp only [vbw] at hW' hsz hcnd;have hw0:Okw 27 d0:=vat.2 (fun x hx=>vat.1 hsz x (DataW.weights_mem_each (j:=0) (t:=27) (d:=d0) rfl rfl x hx))
 have hlt0:∀ x ∈ p0,x.block<W.heap.size:=fun x hx=>by simpa using hW'.lt x (by simp [hx])
 have hargs0:∀ (W':World),Below W.heap.size W W'->DataW.Trod enc Tryz.prog W' 0 (fun b=>decide (b<W.heap.size)) true 27 _ d0 p0:=
  fun W' hn=>Below.trod zl8 (by kernel_rfl) (of_decide_eq_true (by kernel_rfl)) h0 hn hlt0
 have hbk0:Rows.uptoBulk d0<=1048576:=vbe (bulks.part_le (by simp)) hcnd;obtain ⟨m0,a01,c01,a02,c02,a03,c03,a04,c04,hM0,hS0⟩:=zox (hval 0 27 v0 rfl rfl) h0 hw0;have hw1:Okw 38 d1:=vat.2 (fun x hx=>vat.1 hsz x (DataW.weights_mem_each (j:=1) (t:=38) (d:=d1) rfl rfl x hx))
 have hlt1:∀ x ∈ p1,x.block<W.heap.size:=fun x hx=>by simpa using hW'.lt x (by simp [hx])
 have hargs1:∀ (W':World),Below W.heap.size W W'->DataW.Trod enc Tryz.prog W' 0 (fun b=>decide (b<W.heap.size)) true 38 _ d1 p1:=
  fun W' hn=>Below.trod zl8 (by kernel_rfl) (of_decide_eq_true (by kernel_rfl)) h1 hn hlt1
 have hbk1:Rows.uptoBulk d1<=1048576:=vbe (bulks.part_le (by simp)) hcnd;obtain ⟨ad1,ln1,cp1,rfl⟩:=okWide_slice Tryz.underlying38 (hval 1 38 v1 rfl rfl);obtain ⟨fu1,hf1⟩:=h1;obtain ⟨l1,hl1⟩:=zyt (x:=(d1,p1)) hf1 hw1;obtain ⟨aa1,cc1,hsl1,hD1⟩:=zbg hl1
 injection hsl1 with e11 e21 e31
 subst e11 e21 e31
 refine (zh0 zkt m0 v0 a01 c01 a02 c02 a03 c03 a04 c04 l1 _ _ W hM0 (hS0 hbk0) hD1).mono fun e W' ⟨he,hb⟩=>?_
 subst he;refine ⟨_,rfl,_,_,_,[],(p0++(p1++[])),[],hW',?_,?_,rfl,hb.frame _,fun h=>by cases h⟩
 . exact trodAll_mk1 (shut_bool Tryz.underlying4 true)
 . exact trodAll_cons_mk (hargs0 _ hb) (trodAll_cons_mk (hargs1 _ hb) trodAll_mk0)
theorem zhh (os:Os):laidMet Tryz.prog Rows.scopeResolvesUptoRow.laid ((zkl os).forCall (fun _ _=>0) ⟨#[],#[.agg #[.string ⟨#[]⟩,.slice none 0 0,.slice none 0 0,.slice none 0 0,.slice none 0 0],.slice none 0 0],[]⟩).memory:=
 laidMet_of_run' 8 (by kernel_rfl) (by kernel_rfl)
theorem zgl (os:Os) {H:Type} (enc:TypeId × Value->H):∃ places,DataW.whole enc Tryz.prog ((zkl os).forCall (fun _ _=>0) ⟨#[],#[.agg #[.string ⟨#[]⟩,.slice none 0 0,.slice none 0 0,.slice none 0 0,.slice none 0 0],.slice none 0 0],[]⟩).memory Tryz.f4.params.toList Rows.scopeResolvesSpec.vars false #[Value.agg #[.string ⟨#[]⟩,.slice none 0 0,.slice none 0 0,.slice none 0 0,.slice none 0 0],Value.slice none 0 0].toList 8=some ([.agg [.lit (.string []),.nil,.nil,.nil,.nil],.nil],[],places):=
 ⟨[],by kernel_rfl⟩
theorem zf7 (os:Os) (started:os.Started) (H:Type) (enc:TypeId × Value->H) (F:Stop.Interp) :
 ReturnsInHanded {} Tryz.checked os 4 .any ((Rows.OpenSpec.upto Rows.scopeResolvesSpec).preRow enc Tryz.prog Tryz.f4 Rows.scopeResolvesUptoRow.domain false Rows.scopeResolvesUptoRow.laid) (((Rows.OpenSpec.upto Rows.scopeResolvesSpec).at F).post enc Tryz.prog Tryz.f4 false true false false):=by
 obtain ⟨places,hx⟩:=zgl os enc
 refine returnsInHanded_of_row (C:=Tryz.checked) (s:=(Rows.OpenSpec.upto Rows.scopeResolvesSpec)) z10 started (by kernel_rfl) Tryz.func4
  (witness_row_at (enc:=enc) (C:=Tryz.checked) false (zkl os) #[.agg #[.string ⟨#[]⟩,.slice none 0 0,.slice none 0 0,.slice none 0 0,.slice none 0 0],.slice none 0 0] rfl (by kernel_rfl) (by kernel_rfl) (by kernel_rfl)
    (OpenSpec.preRow_of_cond 8 hx (by kernel_rfl) (fun k hk=>by cases hk;kernel_rfl) (by kernel_rfl) (zhh os))) ?_
 intro W base args ds gs before hval hW _ hcond hsz hL _ _;exact scopeResolves_contract H enc W base args ds gs before hval hW hsz (of_decide_eq_true (hcond _ rfl))
theorem zhi:Rows.ScopeResolvesUptoSaid:=
 OpenClaim.holds_of_cond 4 Tryz.f4 rfl rfl rfl rfl rfl rfl rfl ⟨rfl,rfl,rfl,rfl,rfl⟩ rfl rfl rfl rfl rfl (by kernel_rfl) Tryz.func4 zf6
  (of_decide_eq_true (by kernel_rfl)) (by unfold Func.isWrapper;first | (rw [if_pos (by decide +kernel)];kernel_rfl) | (rw [if_neg (by decide +kernel)];exact ⟨rfl,rfl⟩))
  (fun os started H enc _ F=>by rw [OpenClaim.pre_eq_preRow];exact zf7 os started H enc F)
theorem zgm (f:FuncId) (fn:Func) (hf:Tryz.pinned.checked.prog.funcNamed "bellwright/bellwrightlaw.ScopeResolves" = some f) (hfn:Tryz.pinned.checked.prog.funcs[f]? = some fn) :
 false=Tryz.pinned.checked.prog.looks []/\∀ (j:Nat) t,fn.params[j]? = some t->Tryz.pinned.checked.prog.wantsStandIn t=false:=by
 obtain rfl:f=4:=vac ((show Tryz.prog.funcNamed "bellwright/bellwrightlaw.ScopeResolves" = some 4 by kernel_rfl).symm.trans hf) |>.symm
 obtain rfl:fn=Tryz.f4:=(vac (Tryz.func4.symm.trans hfn)).symm;refine ⟨by kernel_rfl,fun j t ht=>?_⟩;rw [Tryz.params4] at ht;have hm:=Array.mem_of_getElem? ht;simp at hm
 rcases hm with rfl | rfl
 . exact (show Tryz.prog.wantsStandIn 27=false by kernel_rfl)
 . exact (show Tryz.prog.wantsStandIn 38=false by kernel_rfl)
end Go.Proofs.YtndkhgakfodldaaGreatDoor
