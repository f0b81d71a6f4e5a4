import Derived.Test.YtndkhgakfodldaaGreatDoorLinkRightFa
import Derived.JoinedCond
namespace Go.Proofs.YtndkhgakfodldaaGreatDoor
set_option maxRecDepth 100000
theorem zqd:Tryz.prog.recurses 13=Rows.linkRightRow.recurses:=by kernel_rfl
theorem zqe:Tryz.prog.varsNamed 13=Rows.linkRightRow.named:=by kernel_rfl
end Go.Proofs.YtndkhgakfodldaaGreatDoor
