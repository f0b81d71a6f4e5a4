import Derived.Test.YtndkhgakfodldaaGreatDoorLinkLinksFa
import Derived.JoinedCond
set_option maxRecDepth 100000
namespace Go.Proofs.YtndkhgakfodldaaGreatDoor
theorem Ei:Tryz.prog.recurses 12=Rows.linkLinksRow.recurses:=by kernel_rfl
theorem Ej:Tryz.prog.varsNamed 12=Rows.linkLinksRow.named:=by kernel_rfl
end Go.Proofs.YtndkhgakfodldaaGreatDoor
