import Derived.Test.YtndkhgakfodldaaGreatDoorSemLeftFb
namespace Go.Proofs.YtndkhgakfodldaaGreatDoor
set_option maxRecDepth 100000
theorem zj6:joinedFacts Tryz.prog 7 Tryz.f7 (Rows.OpenSpec.upto Rows.semLeftSpec).bare Rows.semLeftUptoRow=true:=by
 unfold joinedFacts;rw [zsk,zsl,zsm,zsn]
 kernel_rfl
end Go.Proofs.YtndkhgakfodldaaGreatDoor
