import Derived.Test.YtndkhgakfodldaaGreatDoorLinkSameFa
import Derived.JoinedCond
set_option maxRecDepth 100000
namespace Go.Proofs.YtndkhgakfodldaaGreatDoor
theorem GL:Tryz.prog.recurses 14=Rows.linkSameUptoRow.recurses:=by kernel_rfl
theorem GM:Tryz.prog.varsNamed 14=Rows.linkSameUptoRow.named:=by kernel_rfl
end Go.Proofs.YtndkhgakfodldaaGreatDoor
