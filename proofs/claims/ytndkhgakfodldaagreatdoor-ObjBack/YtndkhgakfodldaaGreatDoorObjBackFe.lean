/-
  Closed facts of the row of ObjBack.
-/
import Derived.Test.YtndkhgakfodldaaGreatDoorObjBackFd
namespace Go.Proofs.YtndkhgakfodldaaGreatDoor
set_option maxRecDepth 100000
theorem objBack_goes:false=Rows.objBackRow.goesBy Tryz.pinned.checked.prog:=by kernel_rfl
end Go.Proofs.YtndkhgakfodldaaGreatDoor
