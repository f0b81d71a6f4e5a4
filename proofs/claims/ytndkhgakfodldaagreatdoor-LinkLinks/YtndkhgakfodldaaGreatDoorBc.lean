import Derived.Test.YtndkhgakfodldaaGreatDoorXc
import Derived.Test.YtndkhgakfodldaaGreatDoorShelf
namespace Go.Proofs.YtndkhgakfodldaaGreatDoor
set_option maxRecDepth 100000
namespace Fx
open Go.RowKit Go.Shelf
end Fx
end Go.Proofs.YtndkhgakfodldaaGreatDoor
