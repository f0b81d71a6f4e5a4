import Derived.Test.YtndkhgakfodldaaGreatDoorRows
namespace Go.Proofs.YtndkhgakfodldaaGreatDoor
set_option maxRecDepth 100000
theorem zso:Tryz.prog.inPlace 6=Rows.semMoreUptoRow.inPlace:=by kernel_rfl
theorem zsp:Tryz.prog.unfollowed 6=Rows.semMoreUptoRow.unfollowed:=by kernel_rfl
end Go.Proofs.YtndkhgakfodldaaGreatDoor
