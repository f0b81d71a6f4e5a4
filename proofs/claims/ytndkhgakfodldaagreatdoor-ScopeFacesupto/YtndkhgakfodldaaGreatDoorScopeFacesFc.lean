/-
  Closed facts of the row of ScopeFaces.
-/
import Derived.Test.YtndkhgakfodldaaGreatDoorScopeFacesFb
namespace Go.Proofs.YtndkhgakfodldaaGreatDoor
set_option maxRecDepth 100000
theorem scopeFaces_closed:joinedFacts Tryz.prog 3 Tryz.f3 (Rows.OpenSpec.upto Rows.scopeFacesSpec).bare Rows.scopeFacesUptoRow=true:=by
 unfold joinedFacts;rw [scopeFaces_f1,scopeFaces_f2,scopeFaces_f3,scopeFaces_f4]
 kernel_rfl
end Go.Proofs.YtndkhgakfodldaaGreatDoor
