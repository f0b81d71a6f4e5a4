/-
  ObjChecks is proved: whatever object is handed in, Check answers just what the document says; so the statement answers true, and what was handed in reads as it did. No condition; the library's two listed tables are tied to the program's text by the card.
-/
import Derived.Test.YtndkhgakfodldaaGreatDoorObjChecksSb
import Derived.Test.YtndkhgakfodldaaGreatDoorObjChecksFe
namespace Go.Proofs.YtndkhgakfodldaaGreatDoor
set_option maxRecDepth 100000
open Go.ChangeShapes Go.WideShapes Go.ChangeAt Go.RowKit Go.Deep
theorem objChecks_card:Rows.ObjChecksCardSaid:=
 Claim7.holds_tied_plain_at .later [] _ _ _ _ objChecks_said (fun _ h=>by cases h) (by kernel_rfl) (fun _ h=>by cases h) objChecks_row_tie rfl ⟨rfl,rfl⟩ objChecks_main rfl objChecks_plain objChecks_goes
#print axioms objChecks_card
end Go.Proofs.YtndkhgakfodldaaGreatDoor
