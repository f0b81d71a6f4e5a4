import Derived.Test.YtndkhgakfodldaaGreatDoorScopeResolvesFa
import Derived.JoinedCond
namespace Go.Proofs.YtndkhgakfodldaaGreatDoor
set_option maxRecDepth 100000
theorem ziu:Tryz.prog.recurses 4=Rows.scopeResolvesUptoRow.recurses:=by kernel_rfl
theorem ziv:Tryz.prog.varsNamed 4=Rows.scopeResolvesUptoRow.named:=by kernel_rfl
end Go.Proofs.YtndkhgakfodldaaGreatDoor
