import Derived.Test.YtndkhgakfodldaaGreatDoorCards
import Derived.Test.YtndkhgakfodldaaGreatDoorObjWritesFc
namespace Go.Proofs.YtndkhgakfodldaaGreatDoor
set_option maxRecDepth 100000
theorem znt:Tryz.pinned.checked.prog.mainIs=some (Rows.objWritesCard.stood.harness.1,Rows.objWritesCard.stood.harness.2.toList):=by kernel_rfl
end Go.Proofs.YtndkhgakfodldaaGreatDoor
