import Derived.Test.YtndkhgakfodldaaGreatDoorRows
namespace Go.Proofs.YtndkhgakfodldaaGreatDoor
set_option maxRecDepth 100000
theorem zqb:Tryz.prog.inPlace 13=Rows.linkRightRow.inPlace:=by kernel_rfl
theorem zqc:Tryz.prog.unfollowed 13=Rows.linkRightRow.unfollowed:=by kernel_rfl
end Go.Proofs.YtndkhgakfodldaaGreatDoor
