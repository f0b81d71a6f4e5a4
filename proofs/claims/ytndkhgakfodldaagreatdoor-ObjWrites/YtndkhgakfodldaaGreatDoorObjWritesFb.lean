/-
  Closed facts of the row of ObjWrites.
-/
import Derived.Test.YtndkhgakfodldaaGreatDoorObjWritesFa
import Derived.JoinedCond
namespace Go.Proofs.YtndkhgakfodldaaGreatDoor
set_option maxRecDepth 100000
theorem zqm:Tryz.prog.recurses 10=Rows.objWritesRow.recurses:=by kernel_rfl
theorem zqn:Tryz.prog.varsNamed 10=Rows.objWritesRow.named:=by kernel_rfl
end Go.Proofs.YtndkhgakfodldaaGreatDoor
