/-
  Closed facts of the row of ObjChecks.
-/
import Derived.Test.YtndkhgakfodldaaGreatDoorObjChecksFd
namespace Go.Proofs.YtndkhgakfodldaaGreatDoor
set_option maxRecDepth 100000
theorem objChecks_goes:false=Rows.objChecksRow.goesBy Tryz.pinned.checked.prog:=by kernel_rfl
end Go.Proofs.YtndkhgakfodldaaGreatDoor
