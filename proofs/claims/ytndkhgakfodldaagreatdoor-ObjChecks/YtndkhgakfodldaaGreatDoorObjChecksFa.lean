/-
  Closed facts of the row of ObjChecks.
-/
import Derived.Test.YtndkhgakfodldaaGreatDoorRows
namespace Go.Proofs.YtndkhgakfodldaaGreatDoor
set_option maxRecDepth 100000
theorem objChecks_f1:Tryz.prog.inPlace 9=Rows.objChecksRow.inPlace:=by kernel_rfl
theorem objChecks_f2:Tryz.prog.unfollowed 9=Rows.objChecksRow.unfollowed:=by kernel_rfl
end Go.Proofs.YtndkhgakfodldaaGreatDoor
