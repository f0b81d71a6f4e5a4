/-
  Closed facts of the row of GenRight.
-/
import Derived.Test.YtndkhgakfodldaaGreatDoorGenRightFd
namespace Go.Proofs.YtndkhgakfodldaaGreatDoor
set_option maxRecDepth 100000
theorem genRight_goes:false=Rows.genRightUptoRow.goesBy Tryz.pinned.checked.prog:=by kernel_rfl
end Go.Proofs.YtndkhgakfodldaaGreatDoor
