/-
  Closed facts of the row of ObjBack.
-/
import Derived.Test.YtndkhgakfodldaaGreatDoorCards
import Derived.Test.YtndkhgakfodldaaGreatDoorObjBackFc
namespace Go.Proofs.YtndkhgakfodldaaGreatDoor
set_option maxRecDepth 100000
theorem objBack_main:Tryz.pinned.checked.prog.mainIs=some (Rows.objBackCard.stood.harness.1,Rows.objBackCard.stood.harness.2.toList):=by kernel_rfl
end Go.Proofs.YtndkhgakfodldaaGreatDoor
