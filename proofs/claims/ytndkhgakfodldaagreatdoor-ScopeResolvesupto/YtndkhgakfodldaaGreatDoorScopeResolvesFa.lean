import Derived.Test.YtndkhgakfodldaaGreatDoorRows
namespace Go.Proofs.YtndkhgakfodldaaGreatDoor
set_option maxRecDepth 100000
theorem zis:Tryz.prog.inPlace 4=Rows.scopeResolvesUptoRow.inPlace:=by kernel_rfl
theorem zit:Tryz.prog.unfollowed 4=Rows.scopeResolvesUptoRow.unfollowed:=by kernel_rfl
end Go.Proofs.YtndkhgakfodldaaGreatDoor
