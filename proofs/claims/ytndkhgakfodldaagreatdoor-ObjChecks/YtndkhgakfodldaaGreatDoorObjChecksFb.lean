/-
  Closed facts of the row of ObjChecks.
-/
import Derived.Test.YtndkhgakfodldaaGreatDoorObjChecksFa
import Derived.JoinedCond
namespace Go.Proofs.YtndkhgakfodldaaGreatDoor
set_option maxRecDepth 100000
theorem objChecks_f3:Tryz.prog.recurses 9=Rows.objChecksRow.recurses:=by kernel_rfl
theorem objChecks_f4:Tryz.prog.varsNamed 9=Rows.objChecksRow.named:=by kernel_rfl
end Go.Proofs.YtndkhgakfodldaaGreatDoor
