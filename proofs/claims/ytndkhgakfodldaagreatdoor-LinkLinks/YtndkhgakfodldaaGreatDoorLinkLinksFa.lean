import Derived.Test.YtndkhgakfodldaaGreatDoorRows
set_option maxRecDepth 100000
namespace Go.Proofs.YtndkhgakfodldaaGreatDoor
theorem Eg:Tryz.prog.inPlace 12=Rows.linkLinksRow.inPlace:=by kernel_rfl
theorem Eh:Tryz.prog.unfollowed 12=Rows.linkLinksRow.unfollowed:=by kernel_rfl
end Go.Proofs.YtndkhgakfodldaaGreatDoor
