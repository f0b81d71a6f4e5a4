/-
  SemLeft is proved: whatever units, numbers and count of ticks are handed in, a nought more behind all that comes in changes nothing, and a Data has as many numbers as the units need; so the statement answers true, and what was handed in reads as it did; where what is handed in is of bulk at most 1048576 (the bound serves one place: sem.Check puts the units that a unit uses one behind the other into a new list). The library's two listed tables are tied to the program's text by the card.
-/
import Derived.Test.YtndkhgakfodldaaGreatDoorSemLeftSb
import Derived.Test.YtndkhgakfodldaaGreatDoorSemLeftFe
namespace Go.Proofs.YtndkhgakfodldaaGreatDoor
set_option maxRecDepth 100000
open Go.ChangeShapes Go.WideShapes Go.ChangeAt Go.RowKit Go.Deep
theorem semLeftUpto_card:Rows.SemLeftUptoCardSaid:=
 Claim7.holds_tied_plain_at .later [] _ _ _ _ znu (fun _ h=>by cases h) (by kernel_rfl) (fun _ h=>by cases h) semLeftUpto_row_tie rfl ⟨rfl,rfl⟩ znr rfl zl5 zns
#print axioms semLeftUpto_card
end Go.Proofs.YtndkhgakfodldaaGreatDoor
