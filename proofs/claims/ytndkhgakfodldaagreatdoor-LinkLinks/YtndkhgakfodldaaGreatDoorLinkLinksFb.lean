import Derived.Test.YtndkhgakfodldaaGreatDoorLinkLinksFa
import Derived.JoinedCond
namespace Go.Proofs.YtndkhgakfodldaaGreatDoor
set_option maxRecDepth 100000
theorem zpe:Tryz.prog.recurses 12=Rows.linkLinksRow.recurses:=by kernel_rfl
theorem zpf:Tryz.prog.varsNamed 12=Rows.linkLinksRow.named:=by kernel_rfl
end Go.Proofs.YtndkhgakfodldaaGreatDoor
