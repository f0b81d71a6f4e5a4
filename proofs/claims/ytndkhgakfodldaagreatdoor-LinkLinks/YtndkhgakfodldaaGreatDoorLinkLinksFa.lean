import Derived.Test.YtndkhgakfodldaaGreatDoorRows
namespace Go.Proofs.YtndkhgakfodldaaGreatDoor
set_option maxRecDepth 100000
theorem am{P:Prop}(h:P:=by kernel_rfl):P:=h
theorem zqx:Tryz.prog.inPlace 12=Rows.linkLinksRow.inPlace:=am
theorem zqy:Tryz.prog.unfollowed 12=Rows.linkLinksRow.unfollowed:=am
end Go.Proofs.YtndkhgakfodldaaGreatDoor
