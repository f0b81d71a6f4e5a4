import Derived.Test.YtndkhgakfodldaaGreatDoorDre
import Derived.Test.YtndkhgakfodldaaGreatDoorZs
import Derived.Test.YtndkhgakfodldaaGreatDoorSemLeftFc
namespace Go.Proofs.YtndkhgakfodldaaGreatDoor
set_option maxRecDepth 100000
open Go.ChangeShapes Go.WideShapes Go.ChangeAt Go.RowKit Go.Deep
set_option linter.unusedVariables false
theorem semLeft_contract (H:Type) (enc:TypeId × Value->H) (W:World) (base:Nat) (args:Array Value) (ds gs:List (DataW H)) (before:List MemPlace)
 (hval:∀ (j:Nat) t v,Tryz.f7.params[j]? = some t->args[j]? = some v->Value.okWide Tryz.prog W .any base t v)
 (hW:DataW.Whole enc Tryz.prog Tryz.f7.params.toList Rows.semLeftSpec.vars false W args.toList ds gs before) (hsz0:(DataW.weightsEach Tryz.prog (Tryz.f7.params.toList++(Rows.OpenSpec.upto Rows.semLeftSpec).bare.plain.varTypes Tryz.prog) (ds++gs)).all (·<=reachBytes)=true) (hcnd:Rows.uptoBulkAll (ds++gs)<=1048576) :
 Calls Tryz.prog 7 args W fun e W'=>∃ v,e = .returned v/\Rows.semLeftSpec.post enc Tryz.prog Tryz.f7 false true false false W args v W':=by
 have hW':=hW;obtain ⟨p,q,hA0,hV,rfl,hfz,hnd⟩:=hW;have hA:DataW.TrodAll enc Tryz.prog W 0 (fun _=>true) true Tryz.f7.params.toList args.toList ds p:=hA0;have hsz:(DataW.weightsEach Tryz.prog (Tryz.f7.params.toList++(Rows.OpenSpec.upto Rows.semLeftSpec).bare.plain.varTypes Tryz.prog) (ds++gs)).all (·<=reachBytes)=true:=hsz0;clear hsz0;rw [Tryz.params7] at hA hval hsz;obtain ⟨v0,vs0,d0,ds0,p0,q0,hargs,rfl,rfl,h0,r0⟩:=trodAll_cons hA;obtain ⟨v1,vs1,d1,ds1,p1,q1,rfl,rfl,rfl,h1,r1⟩:=trodAll_cons r0;obtain ⟨v2,vs2,d2,ds2,p2,q2,rfl,rfl,rfl,h2,r2⟩:=trodAll_cons r1;obtain ⟨rfl,rfl,rfl⟩:=trodAll_nil r2
 obtain rfl:args=#[v0,v1,v2]:=by cases args;simp_all
 obtain ⟨rfl,rfl⟩:=trodVars_none hV;obtain ⟨s2,rfl,rfl,rfl,hs2⟩:=open_int Tryz.underlying3 (hval 2 3 v2 rfl rfl) h2;clear hA0;simp only [vcf] at hW' hsz hcnd;have hw0:Okw 48 d0:=vas.2 (fun x hx=>vas.1 hsz x (DataW.weights_mem_each (j:=0) (t:=48) (d:=d0) rfl rfl x hx))
 have hlt0:∀ x ∈ p0,x.block<W.heap.size:=fun x hx=>by simpa using hW'.lt x (by simp [hx])
 have hargs0:∀ (W':World),Below W.heap.size W W'->DataW.Trod enc Tryz.prog W' 0 (fun b=>decide (b<W.heap.size)) true 48 _ d0 p0:=
  fun W' hn=>Below.trod zhq (by kernel_rfl) (of_decide_eq_true (by kernel_rfl)) h0 hn hlt0
 have hbk0:Rows.uptoBulk d0<=1048576:=vav (bulks.part_le (by simp)) hcnd;obtain ⟨ad0,ln0,cp0,rfl⟩:=okWide_slice Tryz.underlying48 (hval 0 48 v0 rfl rfl);obtain ⟨fu0,hf0⟩:=h0;obtain ⟨l0,hl0,hb0⟩:=zy1 (x:=(d0,p0)) hf0 hw0;obtain ⟨aa0,cc0,hsl0,hD0⟩:=zaz hl0
 injection hsl0 with e10 e20 e30
 subst e10 e20 e30;have hw1:Okw 49 d1:=vas.2 (fun x hx=>vas.1 hsz x (DataW.weights_mem_each (j:=1) (t:=49) (d:=d1) rfl rfl x hx))
 have hlt1:∀ x ∈ p1,x.block<W.heap.size:=fun x hx=>by simpa using hW'.lt x (by simp [hx])
 have hargs1:∀ (W':World),Below W.heap.size W W'->DataW.Trod enc Tryz.prog W' 0 (fun b=>decide (b<W.heap.size)) true 49 _ d1 p1:=
  fun W' hn=>Below.trod zhq (by kernel_rfl) (of_decide_eq_true (by kernel_rfl)) h1 hn hlt1
 have hbk1:Rows.uptoBulk d1<=1048576:=vav (bulks.part_le (by simp)) hcnd;obtain ⟨ad1,ln1,cp1,rfl⟩:=okWide_slice Tryz.underlying49 (hval 1 49 v1 rfl rfl);obtain ⟨fu1,hf1⟩:=h1;obtain ⟨l1,hl1,hk1⟩:=zwb (x:=(d1,p1)) hf1 hw1;obtain ⟨aa1,cc1,hsl1,hD1⟩:=zaz hl1
 injection hsl1 with e11 e21 e31
 subst e11 e21 e31
 have hargs2:∀ (W':World),Below W.heap.size W W'->DataW.Trod enc Tryz.prog W' 0 (fun b=>decide (b<W.heap.size)) true 3 _ _ []:=
  fun W' hn=>Below.trod zhq (by kernel_rfl) (of_decide_eq_true (by kernel_rfl)) h2 hn (fun x hx=>by cases hx)
 refine (zot l0 l1 s2 _ _ _ _ W hD0 hD1 (hk1 _ _ _ rfl) (fun u hu=>vav (hb0 hbk0 u hu) (by omega))).mono fun e W' ⟨he,hb⟩=>?_
 subst he;refine ⟨_,rfl,_,_,_,[],(p0++(p1++([]++[]))),[],hW',?_,?_,rfl,hb.frame _,fun h=>by cases h⟩
 . exact trodAll_mk1 (shut_bool Tryz.underlying4 true)
 . exact trodAll_cons_mk (hargs0 _ hb) (trodAll_cons_mk (hargs1 _ hb) (trodAll_cons_mk (hargs2 _ hb) trodAll_mk0))
theorem znt (os:Os):laidMet Tryz.prog Rows.semLeftUptoRow.laid ((zjq os).forCall (fun _ _=>0) ⟨#[],#[.slice none 0 0,.slice none 0 0,.int .i64 0],[]⟩).memory:=
 laidMet_of_run' 8 (by kernel_rfl) (by kernel_rfl)
theorem zl4 (os:Os) {H:Type} (enc:TypeId × Value->H):∃ places,DataW.whole enc Tryz.prog ((zjq os).forCall (fun _ _=>0) ⟨#[],#[.slice none 0 0,.slice none 0 0,.int .i64 0],[]⟩).memory Tryz.f7.params.toList Rows.semLeftSpec.vars false #[Value.slice none 0 0,Value.slice none 0 0,Value.int .i64 0].toList 8=some ([.nil,.nil,.lit (.int .i64 0)],[],places):=
 ⟨[],by kernel_rfl⟩
theorem zj7 (os:Os) (started:os.Started) (H:Type) (enc:TypeId × Value->H) (F:Stop.Interp) :
 ReturnsInHanded {} Tryz.checked os 7 .any ((Rows.OpenSpec.upto Rows.semLeftSpec).preRow enc Tryz.prog Tryz.f7 Rows.semLeftUptoRow.domain false Rows.semLeftUptoRow.laid) (((Rows.OpenSpec.upto Rows.semLeftSpec).at F).post enc Tryz.prog Tryz.f7 false true false false):=by
 obtain ⟨places,hx⟩:=zl4 os enc
 refine returnsInHanded_of_row (C:=Tryz.checked) (s:=(Rows.OpenSpec.upto Rows.semLeftSpec)) z2p started (by kernel_rfl) Tryz.func7
  (witness_row_at (enc:=enc) (C:=Tryz.checked) false (zjq os) #[.slice none 0 0,.slice none 0 0,.int .i64 0] rfl (by kernel_rfl) (by kernel_rfl) (by kernel_rfl)
    (OpenSpec.preRow_of_cond 8 hx (by kernel_rfl) (fun k hk=>by cases hk;kernel_rfl) (by kernel_rfl) (znt os))) ?_
 intro W base args ds gs before hval hW _ hcond hsz hL _ _;exact semLeft_contract H enc W base args ds gs before hval hW hsz (of_decide_eq_true (hcond _ rfl))
theorem znu:Rows.SemLeftUptoSaid:=
 OpenClaim.holds_of_cond 7 Tryz.f7 rfl rfl rfl rfl rfl rfl rfl ⟨rfl,rfl,rfl,rfl,rfl⟩ rfl rfl rfl rfl rfl (by kernel_rfl) Tryz.func7 zj6
  (of_decide_eq_true (by kernel_rfl)) (by unfold Func.isWrapper;first | (rw [if_pos (by decide +kernel)];kernel_rfl) | (rw [if_neg (by decide +kernel)];exact ⟨rfl,rfl⟩))
  (fun os started H enc _ F=>by rw [OpenClaim.pre_eq_preRow];exact zj7 os started H enc F)
theorem zl5 (f:FuncId) (fn:Func) (hf:Tryz.pinned.checked.prog.funcNamed "bellwright/bellwrightlaw.SemLeft" = some f) (hfn:Tryz.pinned.checked.prog.funcs[f]? = some fn) :
 false=Tryz.pinned.checked.prog.looks []/\∀ (j:Nat) t,fn.params[j]? = some t->Tryz.pinned.checked.prog.wantsStandIn t=false:=by
 obtain rfl:f=7:=vab ((show Tryz.prog.funcNamed "bellwright/bellwrightlaw.SemLeft" = some 7 by kernel_rfl).symm.trans hf) |>.symm
 obtain rfl:fn=Tryz.f7:=(vab (Tryz.func7.symm.trans hfn)).symm;refine ⟨by kernel_rfl,fun j t ht=>?_⟩;rw [Tryz.params7] at ht;have hm:=Array.mem_of_getElem? ht;simp at hm
 rcases hm with rfl | rfl | rfl
 . exact (show Tryz.prog.wantsStandIn 48=false by kernel_rfl)
 . exact (show Tryz.prog.wantsStandIn 49=false by kernel_rfl)
 . exact (show Tryz.prog.wantsStandIn 3=false by kernel_rfl)
end Go.Proofs.YtndkhgakfodldaaGreatDoor
