import Derived.Test.YtndkhgakfodldaaGreatDoorCards
import Derived.Test.YtndkhgakfodldaaGreatDoorLinkSameFc
set_option maxRecDepth 100000
namespace Go.Proofs.YtndkhgakfodldaaGreatDoor
theorem GO:Tryz.pinned.checked.prog.mainIs=some (Rows.linkSameUptoCard.stood.harness.1,Rows.linkSameUptoCard.stood.harness.2.toList):=by kernel_rfl
end Go.Proofs.YtndkhgakfodldaaGreatDoor
