/-
  Closed facts of the row of ScopeFaces.
-/
import Derived.Test.YtndkhgakfodldaaGreatDoorRows
namespace Go.Proofs.YtndkhgakfodldaaGreatDoor
set_option maxRecDepth 100000
theorem scopeFaces_f1:Tryz.prog.inPlace 3=Rows.scopeFacesUptoRow.inPlace:=by kernel_rfl
theorem scopeFaces_f2:Tryz.prog.unfollowed 3=Rows.scopeFacesUptoRow.unfollowed:=by kernel_rfl
end Go.Proofs.YtndkhgakfodldaaGreatDoor
