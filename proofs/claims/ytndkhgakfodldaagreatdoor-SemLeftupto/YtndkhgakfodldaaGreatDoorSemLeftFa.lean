import Derived.Test.YtndkhgakfodldaaGreatDoorRows
namespace Go.Proofs.YtndkhgakfodldaaGreatDoor
set_option maxRecDepth 100000
theorem zsk:Tryz.prog.inPlace 7=Rows.semLeftUptoRow.inPlace:=by kernel_rfl
theorem zsl:Tryz.prog.unfollowed 7=Rows.semLeftUptoRow.unfollowed:=by kernel_rfl
end Go.Proofs.YtndkhgakfodldaaGreatDoor
