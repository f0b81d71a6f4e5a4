import Derived.Test.YtndkhgakfodldaaGreatDoorSemLeftFd
namespace Go.Proofs.YtndkhgakfodldaaGreatDoor
set_option maxRecDepth 100000
theorem zns:false=Rows.semLeftUptoRow.goesBy Tryz.pinned.checked.prog:=by kernel_rfl
end Go.Proofs.YtndkhgakfodldaaGreatDoor
