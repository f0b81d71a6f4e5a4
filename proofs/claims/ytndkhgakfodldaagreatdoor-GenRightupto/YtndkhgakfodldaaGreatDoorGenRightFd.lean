/-
  Closed facts of the row of GenRight.
-/
import Derived.Test.YtndkhgakfodldaaGreatDoorCards
import Derived.Test.YtndkhgakfodldaaGreatDoorGenRightFc
namespace Go.Proofs.YtndkhgakfodldaaGreatDoor
set_option maxRecDepth 100000
theorem genRight_main:Tryz.pinned.checked.prog.mainIs=some (Rows.genRightUptoCard.stood.harness.1,Rows.genRightUptoCard.stood.harness.2.toList):=by kernel_rfl
end Go.Proofs.YtndkhgakfodldaaGreatDoor
