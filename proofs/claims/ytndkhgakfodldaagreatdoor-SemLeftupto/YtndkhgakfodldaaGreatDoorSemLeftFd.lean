import Derived.Test.YtndkhgakfodldaaGreatDoorCards
import Derived.Test.YtndkhgakfodldaaGreatDoorSemLeftFc
namespace Go.Proofs.YtndkhgakfodldaaGreatDoor
set_option maxRecDepth 100000
theorem znr:Tryz.pinned.checked.prog.mainIs=some (Rows.semLeftUptoCard.stood.harness.1,Rows.semLeftUptoCard.stood.harness.2.toList):=by kernel_rfl
end Go.Proofs.YtndkhgakfodldaaGreatDoor
