import Derived.Test.YtndkhgakfodldaaGreatDoorSemMoreFa
import Derived.JoinedCond
namespace Go.Proofs.YtndkhgakfodldaaGreatDoor
set_option maxRecDepth 100000
theorem zsq:Tryz.prog.recurses 6=Rows.semMoreUptoRow.recurses:=by kernel_rfl
theorem zsr:Tryz.prog.varsNamed 6=Rows.semMoreUptoRow.named:=by kernel_rfl
end Go.Proofs.YtndkhgakfodldaaGreatDoor
