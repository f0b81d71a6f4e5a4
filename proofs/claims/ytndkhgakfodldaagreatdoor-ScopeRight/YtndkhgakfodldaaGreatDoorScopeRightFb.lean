/-
  Closed facts of the row of ScopeRight.
-/
import Derived.Test.YtndkhgakfodldaaGreatDoorScopeRightFa
import Derived.JoinedCond
namespace Go.Proofs.YtndkhgakfodldaaGreatDoor
set_option maxRecDepth 100000
theorem scopeRight_f3 : Tryz.prog.recurses 5 = Rows.scopeRightRow.recurses := by kernel_rfl
theorem scopeRight_f4 : Tryz.prog.varsNamed 5 = Rows.scopeRightRow.named := by kernel_rfl
end Go.Proofs.YtndkhgakfodldaaGreatDoor
