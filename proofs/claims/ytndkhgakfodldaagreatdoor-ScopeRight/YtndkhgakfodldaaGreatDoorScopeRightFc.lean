/-
  Closed facts of the row of ScopeRight.
-/
import Derived.Test.YtndkhgakfodldaaGreatDoorScopeRightFb
namespace Go.Proofs.YtndkhgakfodldaaGreatDoor
set_option maxRecDepth 100000
theorem scopeRight_closed : joinedFacts Tryz.prog 5 Tryz.f5 (OpenSpec.ofChange Rows.scopeRightSpec).bare Rows.scopeRightRow = true := by
  unfold joinedFacts
  rw [scopeRight_f1, scopeRight_f2, scopeRight_f3, scopeRight_f4]
  kernel_rfl
end Go.Proofs.YtndkhgakfodldaaGreatDoor
