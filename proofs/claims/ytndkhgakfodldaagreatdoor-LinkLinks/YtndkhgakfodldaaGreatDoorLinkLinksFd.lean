import Derived.Test.YtndkhgakfodldaaGreatDoorCards
import Derived.Test.YtndkhgakfodldaaGreatDoorLinkLinksFc
set_option maxRecDepth 100000
namespace Go.Proofs.YtndkhgakfodldaaGreatDoor
theorem El:Tryz.pinned.checked.prog.mainIs=some (Rows.linkLinksCard.stood.harness.1,Rows.linkLinksCard.stood.harness.2.toList):=by kernel_rfl
end Go.Proofs.YtndkhgakfodldaaGreatDoor
