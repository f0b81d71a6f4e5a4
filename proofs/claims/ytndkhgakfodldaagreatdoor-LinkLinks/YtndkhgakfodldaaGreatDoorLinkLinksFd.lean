import Derived.Test.YtndkhgakfodldaaGreatDoorCards
import Derived.Test.YtndkhgakfodldaaGreatDoorLinkLinksFc
namespace Go.Proofs.YtndkhgakfodldaaGreatDoor
set_option maxRecDepth 100000
theorem zmt:Tryz.pinned.checked.prog.mainIs=some (Rows.linkLinksCard.stood.harness.1,Rows.linkLinksCard.stood.harness.2.toList):=am
end Go.Proofs.YtndkhgakfodldaaGreatDoor
