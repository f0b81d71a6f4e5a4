/-
  Closed facts of the row of ObjWrites.
-/
import Derived.Test.YtndkhgakfodldaaGreatDoorRows
namespace Go.Proofs.YtndkhgakfodldaaGreatDoor
set_option maxRecDepth 100000
theorem zqk:Tryz.prog.inPlace 10=Rows.objWritesRow.inPlace:=by kernel_rfl
theorem zql:Tryz.prog.unfollowed 10=Rows.objWritesRow.unfollowed:=by kernel_rfl
end Go.Proofs.YtndkhgakfodldaaGreatDoor
