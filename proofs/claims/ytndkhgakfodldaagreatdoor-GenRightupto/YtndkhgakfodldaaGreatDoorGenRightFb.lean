/-
  Closed facts of the row of GenRight.
-/
import Derived.Test.YtndkhgakfodldaaGreatDoorGenRightFa
import Derived.JoinedCond
namespace Go.Proofs.YtndkhgakfodldaaGreatDoor
set_option maxRecDepth 100000
theorem genRight_f3:Tryz.prog.recurses 8=Rows.genRightUptoRow.recurses:=by kernel_rfl
theorem genRight_f4:Tryz.prog.varsNamed 8=Rows.genRightUptoRow.named:=by kernel_rfl
end Go.Proofs.YtndkhgakfodldaaGreatDoor
