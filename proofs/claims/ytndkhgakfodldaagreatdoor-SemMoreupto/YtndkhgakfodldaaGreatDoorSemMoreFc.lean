import Derived.Test.YtndkhgakfodldaaGreatDoorSemMoreFb
namespace Go.Proofs.YtndkhgakfodldaaGreatDoor
set_option maxRecDepth 100000
theorem zj9:joinedFacts Tryz.prog 6 Tryz.f6 (Rows.OpenSpec.upto Rows.semMoreSpec).bare Rows.semMoreUptoRow=true:=by
 unfold joinedFacts;rw [zso,zsp,zsq,zsr]
 kernel_rfl
end Go.Proofs.YtndkhgakfodldaaGreatDoor
