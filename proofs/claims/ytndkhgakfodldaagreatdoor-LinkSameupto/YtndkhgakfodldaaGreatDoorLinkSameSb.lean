import Derived.Test.YtndkhgakfodldaaGreatDoorLj
import Derived.Test.YtndkhgakfodldaaGreatDoorZs
import Derived.Test.YtndkhgakfodldaaGreatDoorLinkSameFc
set_option maxRecDepth 100000
set_option linter.unusedVariables false
namespace Go.Proofs.YtndkhgakfodldaaGreatDoor
open Go.ChangeShapes Go.WideShapes Go.ChangeAt Go.RowKit Go.Deep
theorem GQ (H:Type) (enc:TypeId × Value->H) (M:World) (y:Nat) (O:Array Value) (ds gs:List (DataW H)) (before:List MemPlace)
 (d:∀ (j:Nat) t v,Tryz.f14.params[j]? = some t->O[j]? = some v->Value.okWide Tryz.prog M .any y t v)
 (ai:DataW.Whole enc Tryz.prog Tryz.f14.params.toList Rows.linkSameSpec.vars false M O.toList ds gs before) (f:(DataW.weightsEach Tryz.prog (Tryz.f14.params.toList++(Rows.OpenSpec.upto Rows.linkSameSpec).bare.plain.varTypes Tryz.prog) (ds++gs)).all (·<=reachBytes)=true) (b:Rows.uptoBulkAll (ds++gs)<=1048576) :
 dw 14 O M fun e c=>∃ v,e = .returned v/\Rows.linkSameSpec.post enc Tryz.prog Tryz.f14 false true false false M O v c:=by
 have a:=ai;obtain ⟨D,R,cp,bb,rfl,bY,B⟩:=ai;have aO:DataW.TrodAll enc Tryz.prog M 0 (fun _=>true) true Tryz.f14.params.toList O.toList ds D:=cp;have am:(DataW.weightsEach Tryz.prog (Tryz.f14.params.toList++(Rows.OpenSpec.upto Rows.linkSameSpec).bare.plain.varTypes Tryz.prog) (ds++gs)).all (·<=reachBytes)=true:=f;clear f;rw [Tryz.params14] at aO d am;obtain ⟨aw,vs0,bE,ds0,bF,aH,hargs,rfl,rfl,ab,bG⟩:=trodAll_cons aO;obtain ⟨aF,vs1,aT,ds1,bo,az,rfl,rfl,rfl,F,bp⟩:=trodAll_cons bG;obtain ⟨aM,vs2,aU,ds2,ei,aK,rfl,rfl,rfl,J,bx⟩:=trodAll_cons bp;obtain ⟨rfl,rfl,rfl⟩:=trodAll_nil bx
 obtain rfl:O=#[aw,aF,aM]:=by cases O;simp_all
 obtain ⟨rfl,rfl⟩:=trodVars_none bb;obtain ⟨b1,rfl,rfl,rfl,r⟩:=open_int Tryz.underlying3 (d 2 3 aM rfl rfl) J;clear cp;simp only [qD] at a am b;have s:hE 48 bE:=e1.2 (fun x S=>e1.1 am x (DataW.weights_mem_each (j:=0) (t:=48) (d:=bE) rfl rfl x S))
 have A:∀ x ∈ bF,x.block<M.heap.size:=fun x S=>by simpa using a.lt x (by simp [S])
 have n:∀ (c:World),dm M c->DataW.Trod enc Tryz.prog c 0 (fun p=>decide (p<M.heap.size)) true 48 _ bE bF:=
  fun c Z=>Below.trod zj (by kernel_rfl) (of_decide_eq_true (by kernel_rfl)) ab Z A
 have l:Rows.uptoBulk bE<=1048576:=fZ (bulks.part_le Ob) b;obtain ⟨q,ln0,cp0,rfl⟩:=okWide_slice Tryz.underlying48 (d 0 48 aw rfl rfl);obtain ⟨E,aN⟩:=ab;obtain ⟨g,bK,bC⟩:=N4 (x:=(bE,bF)) aN s;obtain ⟨z,cc0,hsl0,hD0⟩:=ho bK
 injection hsl0 with e10 e20 e30
 subst e10 e20 e30;have aE:hE 49 aT:=e1.2 (fun x S=>e1.1 am x (DataW.weights_mem_each (j:=1) (t:=49) (d:=aT) rfl rfl x S))
 have o:∀ x ∈ bo,x.block<M.heap.size:=fun x S=>by simpa using a.lt x (by simp [S])
 have k:∀ (c:World),dm M c->DataW.Trod enc Tryz.prog c 0 (fun p=>decide (p<M.heap.size)) true 49 _ aT bo:=
  fun c Z=>Below.trod zj (by kernel_rfl) (of_decide_eq_true (by kernel_rfl)) F Z o
 have C:Rows.uptoBulk aT<=1048576:=fZ (bulks.part_le Ob) b;obtain ⟨G,ln1,cp1,rfl⟩:=okWide_slice Tryz.underlying49 (d 1 49 aF rfl rfl);obtain ⟨K,m⟩:=F;obtain ⟨P,bg,Q⟩:=NS (x:=(aT,bo)) m aE;obtain ⟨w,cc1,hsl1,hD1⟩:=ho bg
 injection hsl1 with e11 e21 e31
 subst e11 e21 e31
 have i:∀ (c:World),dm M c->DataW.Trod enc Tryz.prog c 0 (fun p=>decide (p<M.heap.size)) true 3 _ _ []:=
  fun c Z=>Below.trod zj (by kernel_rfl) (of_decide_eq_true (by kernel_rfl)) J Z (fun x S=>by cases S)
 refine (G5 g P b1 _ _ _ _ M hD0 hD1 (Q _ _ _ rfl) (NT (x:=(aT,bo)) m _ _ _ rfl) (fun u aL=>fZ (bC l u aL) N7)).mono fun e c ⟨ar,I⟩=>?_
 subst ar;refine ⟨_,rfl,_,_,_,[],(bF++(bo++([]++[]))),[],a,?_,?_,rfl,I.frame _,fun h=>P3⟩
 . exact trodAll_mk1 (shut_bool Tryz.underlying4 true)
 . exact trodAll_cons_mk (n _ I) (trodAll_cons_mk (k _ I) (trodAll_cons_mk (i _ I) trodAll_mk0))
theorem GR (a:Os):laidMet Tryz.prog Rows.linkSameUptoRow.laid ((zk a).forCall (fun _ _=>0) ⟨#[],#[dt,dt,di 0],[]⟩).memory:=
 laidMet_of_run' 8 (by kernel_rfl) (by kernel_rfl)
theorem GS (a:Os) {H:Type} (enc:TypeId × Value->H):∃ c,DataW.whole enc Tryz.prog ((zk a).forCall (fun _ _=>0) ⟨#[],#[dt,dt,di 0],[]⟩).memory Tryz.f14.params.toList Rows.linkSameSpec.vars false #[Value.slice none 0 0,Value.slice none 0 0,Value.int .i64 0].toList 8=some ([.nil,.nil,.lit (.int .i64 0)],[],c):=
 ⟨[],by kernel_rfl⟩
theorem GT (a:Os) (started:a.Started) (H:Type) (enc:TypeId × Value->H) (l:Stop.Interp) :
 ReturnsInHanded {} Tryz.checked a 14 .any ((Rows.OpenSpec.upto Rows.linkSameSpec).preRow enc Tryz.prog Tryz.f14 Rows.linkSameUptoRow.domain false Rows.linkSameUptoRow.laid) (((Rows.OpenSpec.upto Rows.linkSameSpec).at l).post enc Tryz.prog Tryz.f14 false true false false):=by
 obtain ⟨c,S⟩:=GS a enc
 refine returnsInHanded_of_row (C:=Tryz.checked) (s:=(Rows.OpenSpec.upto Rows.linkSameSpec)) N5 started (by kernel_rfl) Tryz.func14
  (witness_row_at (enc:=enc) (C:=Tryz.checked) false (zk a) #[dt,dt,di 0] rfl (by kernel_rfl) (by kernel_rfl) (by kernel_rfl)
    (OpenSpec.preRow_of_cond 8 S (by kernel_rfl) (fun k N=>by cases N;kernel_rfl) (by kernel_rfl) (GR a))) ?_
 intro M y O Y b before d ai _ hcond am aQ _ _;exact GQ H enc M y O Y b before d ai am (of_decide_eq_true (hcond _ rfl))
theorem GU:Rows.LinkSameUptoSaid:=
 OpenClaim.holds_of_cond 14 Tryz.f14 rfl rfl rfl rfl rfl rfl rfl ⟨rfl,rfl,rfl,rfl,rfl⟩ rfl rfl rfl rfl rfl (by kernel_rfl) Tryz.func14 GN
  (of_decide_eq_true (by kernel_rfl)) (by unfold Func.isWrapper;first | (rw [if_pos (by decide +kernel)];kernel_rfl) | (rw [if_neg (by decide +kernel)];exact ⟨rfl,rfl⟩))
  (fun a started c b _ l=>by rw [OpenClaim.pre_eq_preRow];exact GT a started c b l)
theorem GV (f:FuncId) (a2:Func) (Y:Tryz.pinned.checked.prog.funcNamed "bellwright/bellwrightlaw.LinkSame" = some f) (a:Tryz.pinned.checked.prog.funcs[f]? = some a2) :
 false=Tryz.pinned.checked.prog.looks []/\∀ (j:Nat) n,a2.params[j]? = some n->Tryz.pinned.checked.prog.wantsStandIn n=false:=by
 obtain rfl:f=14:=eX ((show Tryz.prog.funcNamed "bellwright/bellwrightlaw.LinkSame" = some 14 by kernel_rfl).symm.trans Y) |>.symm
 obtain rfl:a2=Tryz.f14:=(eX (Tryz.func14.symm.trans a)).symm;refine ⟨by kernel_rfl,fun j n ax=>?_⟩;rw [Tryz.params14] at ax;have a1:=Array.mem_of_getElem? ax;simp at a1
 rcases a1 with rfl | rfl | rfl
 . exact (show Tryz.prog.wantsStandIn 48=false by kernel_rfl)
 . exact (show Tryz.prog.wantsStandIn 49=false by kernel_rfl)
 . exact (show Tryz.prog.wantsStandIn 3=false by kernel_rfl)
end Go.Proofs.YtndkhgakfodldaaGreatDoor
