/-
  Closed facts of the row of ScopeRight.
-/
import Derived.Test.YtndkhgakfodldaaGreatDoorRows
namespace Go.Proofs.YtndkhgakfodldaaGreatDoor
set_option maxRecDepth 100000
theorem scopeRight_f1 : Tryz.prog.inPlace 5 = Rows.scopeRightRow.inPlace := by kernel_rfl
theorem scopeRight_f2 : Tryz.prog.unfollowed 5 = Rows.scopeRightRow.unfollowed := by kernel_rfl
end Go.Proofs.YtndkhgakfodldaaGreatDoor
