/-
  Closed facts of the row of ObjChecks.
-/
import Derived.Test.YtndkhgakfodldaaGreatDoorCards
import Derived.Test.YtndkhgakfodldaaGreatDoorObjChecksFc
namespace Go.Proofs.YtndkhgakfodldaaGreatDoor
set_option maxRecDepth 100000
theorem objChecks_main:Tryz.pinned.checked.prog.mainIs=some (Rows.objChecksCard.stood.harness.1,Rows.objChecksCard.stood.harness.2.toList):=by kernel_rfl
end Go.Proofs.YtndkhgakfodldaaGreatDoor
