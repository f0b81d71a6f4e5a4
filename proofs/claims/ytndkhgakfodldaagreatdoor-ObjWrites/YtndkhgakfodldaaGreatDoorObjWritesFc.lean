/-
  Closed facts of the row of ObjWrites.
-/
import Derived.Test.YtndkhgakfodldaaGreatDoorObjWritesFb
namespace Go.Proofs.YtndkhgakfodldaaGreatDoor
set_option maxRecDepth 100000
theorem zjp:joinedFacts Tryz.prog 10 Tryz.f10 (OpenSpec.ofChange Rows.objWritesSpec).bare Rows.objWritesRow=true:=by
 unfold joinedFacts;rw [zqk,zql,zqm,zqn]
 kernel_rfl
end Go.Proofs.YtndkhgakfodldaaGreatDoor
