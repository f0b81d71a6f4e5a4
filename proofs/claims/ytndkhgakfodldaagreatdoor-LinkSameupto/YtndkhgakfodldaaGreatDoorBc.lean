import Derived.Test.YtndkhgakfodldaaGreatDoorXc
import Derived.Test.YtndkhgakfodldaaGreatDoorShelf
set_option maxRecDepth 100000
namespace Go.Proofs.YtndkhgakfodldaaGreatDoor
namespace Fx
open Go.RowKit Go.Shelf
end Fx
end Go.Proofs.YtndkhgakfodldaaGreatDoor
