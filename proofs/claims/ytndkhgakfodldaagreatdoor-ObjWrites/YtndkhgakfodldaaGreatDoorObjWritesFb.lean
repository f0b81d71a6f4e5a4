import Derived.Test.YtndkhgakfodldaaGreatDoorObjWritesFa
import Derived.JoinedCond
namespace Go.Proofs.YtndkhgakfodldaaGreatDoor
set_option maxRecDepth 100000
theorem zsi:Tryz.prog.recurses 10=Rows.objWritesRow.recurses:=by kernel_rfl
theorem zsj:Tryz.prog.varsNamed 10=Rows.objWritesRow.named:=by kernel_rfl
end Go.Proofs.YtndkhgakfodldaaGreatDoor
