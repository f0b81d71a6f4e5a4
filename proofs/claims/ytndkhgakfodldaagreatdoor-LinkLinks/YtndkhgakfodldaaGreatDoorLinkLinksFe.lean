import Derived.Test.YtndkhgakfodldaaGreatDoorLinkLinksFd
namespace Go.Proofs.YtndkhgakfodldaaGreatDoor
set_option maxRecDepth 100000
theorem zmu:false=Rows.linkLinksRow.goesBy Tryz.pinned.checked.prog:=am
end Go.Proofs.YtndkhgakfodldaaGreatDoor
