/-
  LinkSame is proved: whatever units, numbers and count of ticks are handed in, the code of a program does what the program means: the same numbers, the same end, the same data, as many ticks, or there is too much code; so the statement answers true, and what was handed in reads as it did; where what is handed in is of bulk at most 1048576 (the bound serves one place: sem.Check puts the units that a unit uses one behind the other into a new list). The library's two listed tables are tied to the program's text by the card.
-/
import Derived.Test.YtndkhgakfodldaaGreatDoorLinkSameSb
import Derived.Test.YtndkhgakfodldaaGreatDoorLinkSameFe
set_option maxRecDepth 100000
namespace Go.Proofs.YtndkhgakfodldaaGreatDoor
open Go.ChangeShapes Go.WideShapes Go.ChangeAt Go.RowKit Go.Deep
theorem linkSameUpto_card:Rows.LinkSameUptoCardSaid:=
 Claim7.holds_tied_plain_at .later [] _ _ _ _ GU (fun _ h=>P3) (by kernel_rfl) (fun _ h=>P3) linkSameUpto_row_tie rfl ⟨rfl,rfl⟩ GO rfl GV GP
#print axioms linkSameUpto_card
end Go.Proofs.YtndkhgakfodldaaGreatDoor
