/-
  Closed facts of the row of ObjBack.
-/
import Derived.Test.YtndkhgakfodldaaGreatDoorObjBackFb
namespace Go.Proofs.YtndkhgakfodldaaGreatDoor
set_option maxRecDepth 100000
theorem objBack_closed:joinedFacts Tryz.prog 11 Tryz.f11 (OpenSpec.ofChange Rows.objBackSpec).bare Rows.objBackRow=true:=by
 unfold joinedFacts;rw [objBack_f1,objBack_f2,objBack_f3,objBack_f4]
 kernel_rfl
end Go.Proofs.YtndkhgakfodldaaGreatDoor
