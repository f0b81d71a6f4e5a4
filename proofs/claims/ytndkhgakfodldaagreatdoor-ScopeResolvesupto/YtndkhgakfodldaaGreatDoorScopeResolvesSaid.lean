/-
  ScopeResolves is proved: whatever module and faces are handed in, Resolve answers just what the document says, errors too; so the statement answers true, and what was handed in reads as it did; where what is handed in is of bulk at most 1048576 (the bound serves one place: the document's own text puts the parameters and the locals of a procedure one behind the other into a new list). The library's two listed tables are tied to the program's text by the card.
-/
import Derived.Test.YtndkhgakfodldaaGreatDoorScopeResolvesSb
import Derived.Test.YtndkhgakfodldaaGreatDoorScopeResolvesFe
namespace Go.Proofs.YtndkhgakfodldaaGreatDoor
set_option maxRecDepth 100000
open Go.ChangeShapes Go.WideShapes Go.ChangeAt Go.RowKit Go.Deep
theorem scopeResolvesUpto_card:Rows.ScopeResolvesUptoCardSaid:=
 Claim7.holds_tied_plain_at .later [] _ _ _ _ zhi (fun _ h=>by cases h) (by kernel_rfl) (fun _ h=>by cases h) scopeResolvesUpto_row_tie rfl ⟨rfl,rfl⟩ zhf rfl zgm zhg
#print axioms scopeResolvesUpto_card
end Go.Proofs.YtndkhgakfodldaaGreatDoor
