import Derived.Test.YtndkhgakfodldaaGreatDoorSemMoreFd
namespace Go.Proofs.YtndkhgakfodldaaGreatDoor
set_option maxRecDepth 100000
theorem znv:false=Rows.semMoreUptoRow.goesBy Tryz.pinned.checked.prog:=by kernel_rfl
end Go.Proofs.YtndkhgakfodldaaGreatDoor
