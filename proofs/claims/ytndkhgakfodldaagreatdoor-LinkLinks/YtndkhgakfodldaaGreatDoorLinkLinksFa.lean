import Derived.Test.YtndkhgakfodldaaGreatDoorRows
namespace Go.Proofs.YtndkhgakfodldaaGreatDoor
set_option maxRecDepth 100000
theorem zpc:Tryz.prog.inPlace 12=Rows.linkLinksRow.inPlace:=by kernel_rfl
theorem zpd:Tryz.prog.unfollowed 12=Rows.linkLinksRow.unfollowed:=by kernel_rfl
end Go.Proofs.YtndkhgakfodldaaGreatDoor
