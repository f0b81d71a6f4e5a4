/-
  Closed facts of the row of GenRight.
-/
import Derived.Test.YtndkhgakfodldaaGreatDoorGenRightFb
namespace Go.Proofs.YtndkhgakfodldaaGreatDoor
set_option maxRecDepth 100000
theorem genRight_closed:joinedFacts Tryz.prog 8 Tryz.f8 (Rows.OpenSpec.upto Rows.genRightSpec).bare Rows.genRightUptoRow=true:=by
 unfold joinedFacts;rw [genRight_f1,genRight_f2,genRight_f3,genRight_f4]
 kernel_rfl
end Go.Proofs.YtndkhgakfodldaaGreatDoor
