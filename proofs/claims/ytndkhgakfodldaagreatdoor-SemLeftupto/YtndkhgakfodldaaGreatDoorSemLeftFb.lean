import Derived.Test.YtndkhgakfodldaaGreatDoorSemLeftFa
import Derived.JoinedCond
namespace Go.Proofs.YtndkhgakfodldaaGreatDoor
set_option maxRecDepth 100000
theorem zsm:Tryz.prog.recurses 7=Rows.semLeftUptoRow.recurses:=by kernel_rfl
theorem zsn:Tryz.prog.varsNamed 7=Rows.semLeftUptoRow.named:=by kernel_rfl
end Go.Proofs.YtndkhgakfodldaaGreatDoor
