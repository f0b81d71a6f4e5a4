/-
  Closed facts of the row of ObjBack.
-/
import Derived.Test.YtndkhgakfodldaaGreatDoorObjBackFa
import Derived.JoinedCond
namespace Go.Proofs.YtndkhgakfodldaaGreatDoor
set_option maxRecDepth 100000
theorem objBack_f3:Tryz.prog.recurses 11=Rows.objBackRow.recurses:=by kernel_rfl
theorem objBack_f4:Tryz.prog.varsNamed 11=Rows.objBackRow.named:=by kernel_rfl
end Go.Proofs.YtndkhgakfodldaaGreatDoor
