/-
  LinkRight is proved: whatever objects are handed in, what Link tells of them is an image that the machine takes for right, as long as all the objects and one more for each, and one; so the statement answers true, and what was handed in reads as it did. No condition; the library's two listed tables are tied to the program's text by the card.
-/
import Derived.Test.YtndkhgakfodldaaGreatDoorLinkRightSb
import Derived.Test.YtndkhgakfodldaaGreatDoorLinkRightFe
namespace Go.Proofs.YtndkhgakfodldaaGreatDoor
set_option maxRecDepth 100000
open Go.ChangeShapes Go.WideShapes Go.ChangeAt Go.RowKit Go.Deep
theorem linkRight_card:Rows.LinkRightCardSaid:=
 Claim7.holds_tied_plain_at .later [] _ _ _ _ zl7 (fun _ h=>by cases h) (by kernel_rfl) (fun _ h=>by cases h) linkRight_row_tie rfl ⟨rfl,rfl⟩ zl4 rfl zkr zl5
#print axioms linkRight_card
end Go.Proofs.YtndkhgakfodldaaGreatDoor
