import Derived.Test.YtndkhgakfodldaaGreatDoorRows
namespace Go.Proofs.YtndkhgakfodldaaGreatDoor
set_option maxRecDepth 100000
theorem zsg:Tryz.prog.inPlace 10=Rows.objWritesRow.inPlace:=by kernel_rfl
theorem zsh:Tryz.prog.unfollowed 10=Rows.objWritesRow.unfollowed:=by kernel_rfl
end Go.Proofs.YtndkhgakfodldaaGreatDoor
