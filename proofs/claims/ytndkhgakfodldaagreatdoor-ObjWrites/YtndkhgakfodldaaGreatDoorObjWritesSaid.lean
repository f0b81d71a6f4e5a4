/-
  ObjWrites is proved: whatever object and text are handed in, Write and Read answer just what the document says, errors too; so the statement answers true, and what was handed in reads as it did. No condition; the library's two listed tables are tied to the program's text by the card.
-/
import Derived.Test.YtndkhgakfodldaaGreatDoorObjWritesSb
import Derived.Test.YtndkhgakfodldaaGreatDoorObjWritesFe
namespace Go.Proofs.YtndkhgakfodldaaGreatDoor
set_option maxRecDepth 100000
open Go.ChangeShapes Go.WideShapes Go.ChangeAt Go.RowKit Go.Deep
theorem objWrites_card:Rows.ObjWritesCardSaid:=
 Claim7.holds_tied_plain_at .later [] _ _ _ _ znw (fun _ h=>by cases h) (by kernel_rfl) (fun _ h=>by cases h) objWrites_row_tie rfl ⟨rfl,rfl⟩ znt rfl zme znu
#print axioms objWrites_card
end Go.Proofs.YtndkhgakfodldaaGreatDoor
