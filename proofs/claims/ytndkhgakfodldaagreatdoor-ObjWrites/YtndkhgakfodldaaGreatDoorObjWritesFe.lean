/-
  Closed facts of the row of ObjWrites.
-/
import Derived.Test.YtndkhgakfodldaaGreatDoorObjWritesFd
namespace Go.Proofs.YtndkhgakfodldaaGreatDoor
set_option maxRecDepth 100000
theorem zmc:false=Rows.objWritesRow.goesBy Tryz.pinned.checked.prog:=by kernel_rfl
end Go.Proofs.YtndkhgakfodldaaGreatDoor
