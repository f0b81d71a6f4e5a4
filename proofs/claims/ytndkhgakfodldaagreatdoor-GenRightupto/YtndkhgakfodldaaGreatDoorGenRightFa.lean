/-
  Closed facts of the row of GenRight.
-/
import Derived.Test.YtndkhgakfodldaaGreatDoorRows
namespace Go.Proofs.YtndkhgakfodldaaGreatDoor
set_option maxRecDepth 100000
theorem genRight_f1:Tryz.prog.inPlace 8=Rows.genRightUptoRow.inPlace:=by kernel_rfl
theorem genRight_f2:Tryz.prog.unfollowed 8=Rows.genRightUptoRow.unfollowed:=by kernel_rfl
end Go.Proofs.YtndkhgakfodldaaGreatDoor
