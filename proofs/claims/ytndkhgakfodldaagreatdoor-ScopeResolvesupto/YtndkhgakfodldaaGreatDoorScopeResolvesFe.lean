import Derived.Test.YtndkhgakfodldaaGreatDoorScopeResolvesFd
namespace Go.Proofs.YtndkhgakfodldaaGreatDoor
set_option maxRecDepth 100000
theorem zhg:false=Rows.scopeResolvesUptoRow.goesBy Tryz.pinned.checked.prog:=by kernel_rfl
end Go.Proofs.YtndkhgakfodldaaGreatDoor
