/-
  ObjBack is proved: whatever object and text are handed in, what Write tells of the object is read as the object, and what Read takes of the text is written as that text; so the statement answers true, and what was handed in reads as it did. No condition; the library's two listed tables are tied to the program's text by the card.
-/
import Derived.Test.YtndkhgakfodldaaGreatDoorObjBackSb
import Derived.Test.YtndkhgakfodldaaGreatDoorObjBackFe
namespace Go.Proofs.YtndkhgakfodldaaGreatDoor
set_option maxRecDepth 100000
open Go.ChangeShapes Go.WideShapes Go.ChangeAt Go.RowKit Go.Deep
theorem objBack_card:Rows.ObjBackCardSaid:=
 Claim7.holds_tied_plain_at .later [] _ _ _ _ objBack_said (fun _ h=>by cases h) (by kernel_rfl) (fun _ h=>by cases h) objBack_row_tie rfl ⟨rfl,rfl⟩ objBack_main rfl objBack_plain objBack_goes
#print axioms objBack_card
end Go.Proofs.YtndkhgakfodldaaGreatDoor
