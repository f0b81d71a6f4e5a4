/-
  SemMore is proved: whatever units, numbers and counts of ticks are handed in, with more ticks the same comes if there were enough, else what was told is what is told first, and no more ticks are used than there are; so the statement answers true, and what was handed in reads as it did; where what is handed in is of bulk at most 1048576 (the bound serves one place: sem.Check puts the units that a unit uses one behind the other into a new list). The library's two listed tables are tied to the program's text by the card.
-/
import Derived.Test.YtndkhgakfodldaaGreatDoorSemMoreSb
import Derived.Test.YtndkhgakfodldaaGreatDoorSemMoreFe
namespace Go.Proofs.YtndkhgakfodldaaGreatDoor
set_option maxRecDepth 100000
open Go.ChangeShapes Go.WideShapes Go.ChangeAt Go.RowKit Go.Deep
theorem semMoreUpto_card:Rows.SemMoreUptoCardSaid:=
 Claim7.holds_tied_plain_at .later [] _ _ _ _ znx (fun _ h=>by cases h) (by kernel_rfl) (fun _ h=>by cases h) semMoreUpto_row_tie rfl ⟨rfl,rfl⟩ znu rfl zl8 znv
#print axioms semMoreUpto_card
end Go.Proofs.YtndkhgakfodldaaGreatDoor
