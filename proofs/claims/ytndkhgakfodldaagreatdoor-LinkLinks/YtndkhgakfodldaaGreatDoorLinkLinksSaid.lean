/-
  LinkLinks is proved: whatever objects are handed in, Check and Link answer just what the document says, errors too; so the statement answers true, and what was handed in reads as it did. No condition; the library's two listed tables are tied to the program's text by the card.
-/
import Derived.Test.YtndkhgakfodldaaGreatDoorLinkLinksSb
import Derived.Test.YtndkhgakfodldaaGreatDoorLinkLinksFe
namespace Go.Proofs.YtndkhgakfodldaaGreatDoor
set_option maxRecDepth 100000
open Go.ChangeShapes Go.WideShapes Go.ChangeAt Go.RowKit Go.Deep
theorem linkLinks_card:Rows.LinkLinksCardSaid:=
 Claim7.holds_tied_plain_at .later [] _ _ _ _ zlg (fun _ h=>by cases h) (by kernel_rfl) (fun _ h=>by cases h) linkLinks_row_tie rfl ⟨rfl,rfl⟩ zld rfl zjv zle
#print axioms linkLinks_card
end Go.Proofs.YtndkhgakfodldaaGreatDoor
