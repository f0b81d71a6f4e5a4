import Derived.Test.YtndkhgakfodldaaGreatDoorZu
import Derived.Test.YtndkhgakfodldaaGreatDoorYa
set_option maxRecDepth 100000
set_option linter.unusedVariables false
namespace Go.Proofs.YtndkhgakfodldaaGreatDoor
open Go.ChangeShapes Go.WideShapes Go.ChangeAt Go.RowKit Go.Deep
variable {c:Value} {d:Nat}
theorem NQ:Tryz.prog.bytesOf 3=8:=by kernel_rfl
theorem NR (l:List Int):l.flatMap (fun n=>[D.int n])=fs l:=by
 induction l with
 | nil=>rfl
 | cons x r ay=>simp only [ki,ay,fs,md];rfl
section
variable {H:Type} {enc:TypeId × Value->H} {M:World}
theorem NS {x:DataW H × List MemPlace} (h:DataW.trod enc Tryz.prog M 0 (fun _=>true) true d 49 [c]=some x) (aj:hE 49 x.1):∃ g:List Int,eO M jo (.list g.length (fs g)) c/\∀ a n k,c = .slice a n k->n<=k:=by
 obtain ⟨g,X⟩:=uD (α:=Int) Tryz.underlying49 cI N7 (by rw [NQ];omega) (fun n=>[D.int n]) (fun n _ s a3 a4 _=>by
  obtain ⟨o,rfl,_,a8⟩:=mc Tryz.underlying3 a4
  exact ⟨o,.cons (eY a8) .nil⟩) h aj
 rw [NR] at X;refine ⟨g,X,fun a n k e=>?_⟩
 rcases uU Tryz.underlying49 h with ⟨r,_⟩ | ⟨a,b,q,i,rest,n,_,r,_,_,X,_⟩
 . rw [e] at r
   simp at r;omega
 . rw [e] at r
   simp at r;omega
end
theorem NT {H:Type} {enc:TypeId × Value->H} {M:World} {x:DataW H × List MemPlace} (h:DataW.trod enc Tryz.prog M 0 (fun _=>true) true d 49 [c]=some x):∀ a n k,c = .slice a n k->k<=maxLen:=by
 intro a n k e
 rcases uU Tryz.underlying49 h with ⟨r,_⟩ | ⟨a,b,q,i,rest,n,_,r,_,_,X,a1,_⟩
 . rw [e] at r
   simp at r;rw [r.2.2]
   decide
 . rw [e] at r
   simp at r;obtain ⟨-, -,rfl⟩:=r;exact a1
end Go.Proofs.YtndkhgakfodldaaGreatDoor
