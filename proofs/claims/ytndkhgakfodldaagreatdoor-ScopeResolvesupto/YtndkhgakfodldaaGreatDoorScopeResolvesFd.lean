import Derived.Test.YtndkhgakfodldaaGreatDoorCards
import Derived.Test.YtndkhgakfodldaaGreatDoorScopeResolvesFc
namespace Go.Proofs.YtndkhgakfodldaaGreatDoor
set_option maxRecDepth 100000
theorem zhf:Tryz.pinned.checked.prog.mainIs=some (Rows.scopeResolvesUptoCard.stood.harness.1,Rows.scopeResolvesUptoCard.stood.harness.2.toList):=by kernel_rfl
end Go.Proofs.YtndkhgakfodldaaGreatDoor
