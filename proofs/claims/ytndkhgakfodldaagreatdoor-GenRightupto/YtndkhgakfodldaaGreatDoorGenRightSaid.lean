/-
  GenRight is proved: whatever units and number are handed in, what Gen tells of the unit that is chosen is a right object with an entry for each part, all jumps of a part stay in it, and a unit of a right program is generated, or has too much code; so the statement answers true, and what was handed in reads as it did; where what is handed in is of bulk at most 1048576 (the bound serves one place: sem.Check puts the units that a unit uses one behind the other into a new list). The library's two listed tables are tied to the program's text by the card.
-/
import Derived.Test.YtndkhgakfodldaaGreatDoorGenRightSb
import Derived.Test.YtndkhgakfodldaaGreatDoorGenRightFe
namespace Go.Proofs.YtndkhgakfodldaaGreatDoor
set_option maxRecDepth 100000
open Go.ChangeShapes Go.WideShapes Go.ChangeAt Go.RowKit Go.Deep
theorem genRightUpto_card:Rows.GenRightUptoCardSaid:=
 Claim7.holds_tied_plain_at .later [] _ _ _ _ genRight_said (fun _ h=>by cases h) (by kernel_rfl) (fun _ h=>by cases h) genRightUpto_row_tie rfl ⟨rfl,rfl⟩ genRight_main rfl genRight_plain genRight_goes
#print axioms genRightUpto_card
end Go.Proofs.YtndkhgakfodldaaGreatDoor
