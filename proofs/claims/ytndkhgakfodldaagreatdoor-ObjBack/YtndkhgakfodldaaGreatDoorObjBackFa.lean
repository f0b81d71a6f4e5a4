/-
  Closed facts of the row of ObjBack.
-/
import Derived.Test.YtndkhgakfodldaaGreatDoorRows
namespace Go.Proofs.YtndkhgakfodldaaGreatDoor
set_option maxRecDepth 100000
theorem objBack_f1:Tryz.prog.inPlace 11=Rows.objBackRow.inPlace:=by kernel_rfl
theorem objBack_f2:Tryz.prog.unfollowed 11=Rows.objBackRow.unfollowed:=by kernel_rfl
end Go.Proofs.YtndkhgakfodldaaGreatDoor
