/-
  Closed facts of the row of ScopeFaces.
-/
import Derived.Test.YtndkhgakfodldaaGreatDoorScopeFacesFa
import Derived.JoinedCond
namespace Go.Proofs.YtndkhgakfodldaaGreatDoor
set_option maxRecDepth 100000
theorem scopeFaces_f3:Tryz.prog.recurses 3=Rows.scopeFacesUptoRow.recurses:=by kernel_rfl
theorem scopeFaces_f4:Tryz.prog.varsNamed 3=Rows.scopeFacesUptoRow.named:=by kernel_rfl
end Go.Proofs.YtndkhgakfodldaaGreatDoor
