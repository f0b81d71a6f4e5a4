/-
  Closed facts of the row of ObjChecks.
-/
import Derived.Test.YtndkhgakfodldaaGreatDoorObjChecksFb
namespace Go.Proofs.YtndkhgakfodldaaGreatDoor
set_option maxRecDepth 100000
theorem objChecks_closed:joinedFacts Tryz.prog 9 Tryz.f9 (OpenSpec.ofChange Rows.objChecksSpec).bare Rows.objChecksRow=true:=by
 unfold joinedFacts;rw [objChecks_f1,objChecks_f2,objChecks_f3,objChecks_f4]
 kernel_rfl
end Go.Proofs.YtndkhgakfodldaaGreatDoor
