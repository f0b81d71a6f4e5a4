import Derived.Test.YtndkhgakfodldaaGreatDoorRows
set_option maxRecDepth 100000
namespace Go.Proofs.YtndkhgakfodldaaGreatDoor
theorem GJ:Tryz.prog.inPlace 14=Rows.linkSameUptoRow.inPlace:=by kernel_rfl
theorem GK:Tryz.prog.unfollowed 14=Rows.linkSameUptoRow.unfollowed:=by kernel_rfl
end Go.Proofs.YtndkhgakfodldaaGreatDoor
