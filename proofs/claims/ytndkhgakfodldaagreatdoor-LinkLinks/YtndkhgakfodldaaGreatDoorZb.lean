import Derived.Test.YtndkhgakfodldaaGreatDoorZo
import Derived.Test.YtndkhgakfodldaaGreatDoorLe
set_option maxRecDepth 100000
set_option linter.unusedVariables false
namespace Go.Proofs.YtndkhgakfodldaaGreatDoor
open Go.ChangeShapes Go.WideShapes Go.ChangeAt Go.RowKit Go.Deep
section
variable {H:Type} {enc:TypeId × Value->H} {M:World}
variable {c:Value} {p:Nat}
theorem KP {x:DataW H × List MemPlace} (h:DataW.trod enc Tryz.prog M 0 (fun _=>true) true p 79 [c]=some x) (aq:kt 79 x.1):∀ a n k,c = .slice a n k->xT M a n:=by
 intro a n k e
 rcases t1 Tryz.underlying79 h with ⟨R,_⟩ | ⟨ad,g,I,elems,rest,o,rfl,R,Q,_,a2,a8,aT,hel1,_,_⟩
 . rw [e] at R
   simp at R;intro V C ab i X;omega
 . rw [e] at R
   simp at R;obtain ⟨rfl,rfl,rfl⟩:=R;subst Q;simp only [kt,DataW.weights,Tryz.underlying79,oz,lL,fs,decide_eq_true_eq] at aq;obtain ⟨b8,ae,_⟩:=aq;intro V C ab i X
   injection ab with ab
   subst ab;have ah:=hel1 i (by omega);rw [yi] at ah
   have P:i<elems.length:=by omega
   rw [gb P] at ah;obtain ⟨l,aM,b1⟩:=Option.bind_eq_some_iff.1 ah;obtain ⟨_,b0,hcell⟩:=World.cells?_some aM;obtain ⟨z,aS,ay⟩:=CK o l elems[i] b1 (wv (po.2 ⟨_,fO P,rfl⟩) ae);obtain ⟨aK,ak,aL⟩:=aS.get 1 (.list z.uses.length (fj z.uses)) rfl;obtain ⟨E,T,rfl,_⟩:=hY aL;refine ⟨E,z.uses.length,T,?_,ay _ _ _ ak⟩;have:=hcell 1 (by omega);rw [add_add,ak,rX,← kd] at this;exact this
theorem KQ {x:DataW H × List MemPlace} (h:DataW.trod enc Tryz.prog M 0 (fun _=>true) true p 79 [c]=some x) (aq:kt 79 x.1):∃ K:List eO,fT M od (.list K.length (sO K)) c/\∀ a n k,c = .slice a n k->xT M a n:=by
 obtain ⟨K,a2⟩:=sl (α:=eO) Tryz.underlying79 yi (by omega) (by rw [KU];omega) eO.ds (fun n _ d o z Q=>by obtain ⟨z,aS,_⟩:=CK n d o z Q;exact ⟨z,aS⟩) h aq;exact ⟨K,a2,KP h aq⟩
end
theorem KR {H:Type} {enc:TypeId × Value->H} {M:World} {p:Nat} {c:Value} {x:DataW H × List MemPlace} (h:DataW.trod enc Tryz.prog M 0 (fun _=>true) true p 79 [c]=some x):∀ a n k,c = .slice a n k->n<=k:=by
 intro a n k e
 rcases t1 Tryz.underlying79 h with ⟨R,_⟩ | ⟨a,g,I,elems,rest,n,_,R,_,_,a2,_⟩
 . rw [e] at R
   simp at R;omega
 . rw [e] at R
   simp at R;omega
end Go.Proofs.YtndkhgakfodldaaGreatDoor
