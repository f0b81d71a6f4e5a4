import Derived.Test.YtndkhgakfodldaaGreatDoorLinkLinksFd
set_option maxRecDepth 100000
namespace Go.Proofs.YtndkhgakfodldaaGreatDoor
theorem Em:false=Rows.linkLinksRow.goesBy Tryz.pinned.checked.prog:=by kernel_rfl
end Go.Proofs.YtndkhgakfodldaaGreatDoor
