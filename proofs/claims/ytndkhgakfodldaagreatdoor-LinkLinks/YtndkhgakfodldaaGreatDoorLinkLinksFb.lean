import Derived.Test.YtndkhgakfodldaaGreatDoorLinkLinksFa
import Derived.JoinedCond
namespace Go.Proofs.YtndkhgakfodldaaGreatDoor
set_option maxRecDepth 100000
theorem zqz:Tryz.prog.recurses 12=Rows.linkLinksRow.recurses:=am
theorem zq0:Tryz.prog.varsNamed 12=Rows.linkLinksRow.named:=am
end Go.Proofs.YtndkhgakfodldaaGreatDoor
