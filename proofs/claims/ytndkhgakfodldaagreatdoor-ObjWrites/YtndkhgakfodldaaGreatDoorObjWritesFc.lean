import Derived.Test.YtndkhgakfodldaaGreatDoorObjWritesFb
namespace Go.Proofs.YtndkhgakfodldaaGreatDoor
set_option maxRecDepth 100000
theorem zky:joinedFacts Tryz.prog 10 Tryz.f10 (OpenSpec.ofChange Rows.objWritesSpec).bare Rows.objWritesRow=true:=by
 unfold joinedFacts;rw [zsg,zsh,zsi,zsj]
 kernel_rfl
end Go.Proofs.YtndkhgakfodldaaGreatDoor
