import Derived.Test.YtndkhgakfodldaaGreatDoorScopeResolvesFb
namespace Go.Proofs.YtndkhgakfodldaaGreatDoor
set_option maxRecDepth 100000
theorem zf6:joinedFacts Tryz.prog 4 Tryz.f4 (Rows.OpenSpec.upto Rows.scopeResolvesSpec).bare Rows.scopeResolvesUptoRow=true:=by
 unfold joinedFacts;rw [zis,zit,ziu,ziv]
 kernel_rfl
end Go.Proofs.YtndkhgakfodldaaGreatDoor
