import Derived.Test.YtndkhgakfodldaaGreatDoorLinkSameFd
set_option maxRecDepth 100000
namespace Go.Proofs.YtndkhgakfodldaaGreatDoor
theorem GP:false=Rows.linkSameUptoRow.goesBy Tryz.pinned.checked.prog:=by kernel_rfl
end Go.Proofs.YtndkhgakfodldaaGreatDoor
