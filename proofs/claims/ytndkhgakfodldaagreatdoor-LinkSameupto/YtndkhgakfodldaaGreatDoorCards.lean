/-
  DERIVED. GIVEN WITH THE SEED: THE CARDS: each row of YtndkhgakfodldaaGreatDoorRows.lean that lists a variable, with what it lists TIED to the program's text (the seventh form; the later family's looks); each row that meets fmt, with fmt's text TOLD by the authors' own Lean function (tested against real Go, not proved from fmt's source: count such statements apart). THE CARD IS WHAT COUNTS. Prove the row's statement (the work); the ties are given (YtndkhgakfodldaaGreatDoorTie.lean); close each card by the builder's one call (the guide's Derived/Test/ToyasCard.lean, 'card_holds'). Laid BY PROGRAM, IN A SANDBOX (cutbox-door.mjs). By AI agents, Wed Nov 11 2026. No macro, syntax, notation, axiom, sorry.
-/
import Derived.Test.YtndkhgakfodldaaGreatDoorRows
import GoSem.ClaimSeven
namespace Go.Proofs.YtndkhgakfodldaaGreatDoor
namespace Rows

/-- THE TIED CARD OF 'bellwrightlaw.ScopeFaces'. -/
def scopeFacesCard : Claim7 := { stood := { row := scopeFacesRow, standIns := [], harness := (true, "8cd6a3d0528a04e4fbca70750596ef3c1ad081a7af2c49fe72acefb6dcbd92fb"), looks := false }, kinds := [], alts := [], laidByText := true, laidKinds := [.data, .pinned], laidTests := true, laidLooks := .later }
def ScopeFacesCardSaid : Prop := Claim7.holds Tryz.pinned (.plain (OpenSpec.ofChange scopeFacesSpec)) scopeFacesCard

/-- THE TIED CARD OF 'bellwrightlaw.ScopeResolves'. -/
def scopeResolvesCard : Claim7 := { stood := { row := scopeResolvesRow, standIns := [], harness := (true, "8cd6a3d0528a04e4fbca70750596ef3c1ad081a7af2c49fe72acefb6dcbd92fb"), looks := false }, kinds := [], alts := [], laidByText := true, laidKinds := [.data, .pinned], laidTests := true, laidLooks := .later }
def ScopeResolvesCardSaid : Prop := Claim7.holds Tryz.pinned (.plain (OpenSpec.ofChange scopeResolvesSpec)) scopeResolvesCard

/-- THE TIED CARD OF 'bellwrightlaw.ScopeRight'. -/
def scopeRightCard : Claim7 := { stood := { row := scopeRightRow, standIns := [], harness := (true, "8cd6a3d0528a04e4fbca70750596ef3c1ad081a7af2c49fe72acefb6dcbd92fb"), looks := false }, kinds := [], alts := [], laidByText := true, laidKinds := [.data, .pinned], laidTests := true, laidLooks := .later }
def ScopeRightCardSaid : Prop := Claim7.holds Tryz.pinned (.plain (OpenSpec.ofChange scopeRightSpec)) scopeRightCard

/-- THE TIED CARD OF 'bellwrightlaw.SemMore'. -/
def semMoreCard : Claim7 := { stood := { row := semMoreRow, standIns := [], harness := (true, "8cd6a3d0528a04e4fbca70750596ef3c1ad081a7af2c49fe72acefb6dcbd92fb"), looks := false }, kinds := [], alts := [], laidByText := true, laidKinds := [.data, .pinned], laidTests := true, laidLooks := .later }
def SemMoreCardSaid : Prop := Claim7.holds Tryz.pinned (.plain (OpenSpec.ofChange semMoreSpec)) semMoreCard

/-- THE TIED CARD OF 'bellwrightlaw.SemLeft'. -/
def semLeftCard : Claim7 := { stood := { row := semLeftRow, standIns := [], harness := (true, "8cd6a3d0528a04e4fbca70750596ef3c1ad081a7af2c49fe72acefb6dcbd92fb"), looks := false }, kinds := [], alts := [], laidByText := true, laidKinds := [.data, .pinned], laidTests := true, laidLooks := .later }
def SemLeftCardSaid : Prop := Claim7.holds Tryz.pinned (.plain (OpenSpec.ofChange semLeftSpec)) semLeftCard

/-- THE TIED CARD OF 'bellwrightlaw.GenRight'. -/
def genRightCard : Claim7 := { stood := { row := genRightRow, standIns := [], harness := (true, "8cd6a3d0528a04e4fbca70750596ef3c1ad081a7af2c49fe72acefb6dcbd92fb"), looks := false }, kinds := [], alts := [], laidByText := true, laidKinds := [.data, .pinned], laidTests := true, laidLooks := .later }
def GenRightCardSaid : Prop := Claim7.holds Tryz.pinned (.plain (OpenSpec.ofChange genRightSpec)) genRightCard

/-- THE TIED CARD OF 'bellwrightlaw.ObjChecks'. -/
def objChecksCard : Claim7 := { stood := { row := objChecksRow, standIns := [], harness := (true, "8cd6a3d0528a04e4fbca70750596ef3c1ad081a7af2c49fe72acefb6dcbd92fb"), looks := false }, kinds := [], alts := [], laidByText := true, laidKinds := [.data, .pinned], laidTests := true, laidLooks := .later }
def ObjChecksCardSaid : Prop := Claim7.holds Tryz.pinned (.plain (OpenSpec.ofChange objChecksSpec)) objChecksCard

/-- THE TIED CARD OF 'bellwrightlaw.ObjWrites'. -/
def objWritesCard : Claim7 := { stood := { row := objWritesRow, standIns := [], harness := (true, "8cd6a3d0528a04e4fbca70750596ef3c1ad081a7af2c49fe72acefb6dcbd92fb"), looks := false }, kinds := [], alts := [], laidByText := true, laidKinds := [.data, .pinned], laidTests := true, laidLooks := .later }
def ObjWritesCardSaid : Prop := Claim7.holds Tryz.pinned (.plain (OpenSpec.ofChange objWritesSpec)) objWritesCard

/-- THE TIED CARD OF 'bellwrightlaw.ObjBack'. -/
def objBackCard : Claim7 := { stood := { row := objBackRow, standIns := [], harness := (true, "8cd6a3d0528a04e4fbca70750596ef3c1ad081a7af2c49fe72acefb6dcbd92fb"), looks := false }, kinds := [], alts := [], laidByText := true, laidKinds := [.data, .pinned], laidTests := true, laidLooks := .later }
def ObjBackCardSaid : Prop := Claim7.holds Tryz.pinned (.plain (OpenSpec.ofChange objBackSpec)) objBackCard

/-- THE TIED CARD OF 'bellwrightlaw.LinkLinks'. -/
def linkLinksCard : Claim7 := { stood := { row := linkLinksRow, standIns := [], harness := (true, "8cd6a3d0528a04e4fbca70750596ef3c1ad081a7af2c49fe72acefb6dcbd92fb"), looks := false }, kinds := [], alts := [], laidByText := true, laidKinds := [.data, .pinned], laidTests := true, laidLooks := .later }
def LinkLinksCardSaid : Prop := Claim7.holds Tryz.pinned (.plain (OpenSpec.ofChange linkLinksSpec)) linkLinksCard

/-- THE TIED CARD OF 'bellwrightlaw.LinkRight'. -/
def linkRightCard : Claim7 := { stood := { row := linkRightRow, standIns := [], harness := (true, "8cd6a3d0528a04e4fbca70750596ef3c1ad081a7af2c49fe72acefb6dcbd92fb"), looks := false }, kinds := [], alts := [], laidByText := true, laidKinds := [.data, .pinned], laidTests := true, laidLooks := .later }
def LinkRightCardSaid : Prop := Claim7.holds Tryz.pinned (.plain (OpenSpec.ofChange linkRightSpec)) linkRightCard

/-- THE TIED CARD OF 'bellwrightlaw.LinkSame'. -/
def linkSameCard : Claim7 := { stood := { row := linkSameRow, standIns := [], harness := (true, "8cd6a3d0528a04e4fbca70750596ef3c1ad081a7af2c49fe72acefb6dcbd92fb"), looks := false }, kinds := [], alts := [], laidByText := true, laidKinds := [.data, .pinned], laidTests := true, laidLooks := .later }
def LinkSameCardSaid : Prop := Claim7.holds Tryz.pinned (.plain (OpenSpec.ofChange linkSameSpec)) linkSameCard

/-- THE SECOND FORM's CARD OF 'bellwrightlaw.ScopeFaces'. -/
def scopeFacesUptoCard : Claim7 := { stood := { row := scopeFacesUptoRow, standIns := [], harness := (true, "8cd6a3d0528a04e4fbca70750596ef3c1ad081a7af2c49fe72acefb6dcbd92fb"), looks := false }, kinds := [], alts := [], laidByText := true, laidKinds := [.data, .pinned], laidTests := true, laidLooks := .later }
def ScopeFacesUptoCardSaid : Prop := Claim7.holds Tryz.pinned (.plain (OpenSpec.upto scopeFacesSpec)) scopeFacesUptoCard

/-- THE SECOND FORM's CARD OF 'bellwrightlaw.ScopeResolves'. -/
def scopeResolvesUptoCard : Claim7 := { stood := { row := scopeResolvesUptoRow, standIns := [], harness := (true, "8cd6a3d0528a04e4fbca70750596ef3c1ad081a7af2c49fe72acefb6dcbd92fb"), looks := false }, kinds := [], alts := [], laidByText := true, laidKinds := [.data, .pinned], laidTests := true, laidLooks := .later }
def ScopeResolvesUptoCardSaid : Prop := Claim7.holds Tryz.pinned (.plain (OpenSpec.upto scopeResolvesSpec)) scopeResolvesUptoCard

/-- THE SECOND FORM's CARD OF 'bellwrightlaw.ScopeRight'. -/
def scopeRightUptoCard : Claim7 := { stood := { row := scopeRightUptoRow, standIns := [], harness := (true, "8cd6a3d0528a04e4fbca70750596ef3c1ad081a7af2c49fe72acefb6dcbd92fb"), looks := false }, kinds := [], alts := [], laidByText := true, laidKinds := [.data, .pinned], laidTests := true, laidLooks := .later }
def ScopeRightUptoCardSaid : Prop := Claim7.holds Tryz.pinned (.plain (OpenSpec.upto scopeRightSpec)) scopeRightUptoCard

/-- THE SECOND FORM's CARD OF 'bellwrightlaw.SemMore'. -/
def semMoreUptoCard : Claim7 := { stood := { row := semMoreUptoRow, standIns := [], harness := (true, "8cd6a3d0528a04e4fbca70750596ef3c1ad081a7af2c49fe72acefb6dcbd92fb"), looks := false }, kinds := [], alts := [], laidByText := true, laidKinds := [.data, .pinned], laidTests := true, laidLooks := .later }
def SemMoreUptoCardSaid : Prop := Claim7.holds Tryz.pinned (.plain (OpenSpec.upto semMoreSpec)) semMoreUptoCard

/-- THE SECOND FORM's CARD OF 'bellwrightlaw.SemLeft'. -/
def semLeftUptoCard : Claim7 := { stood := { row := semLeftUptoRow, standIns := [], harness := (true, "8cd6a3d0528a04e4fbca70750596ef3c1ad081a7af2c49fe72acefb6dcbd92fb"), looks := false }, kinds := [], alts := [], laidByText := true, laidKinds := [.data, .pinned], laidTests := true, laidLooks := .later }
def SemLeftUptoCardSaid : Prop := Claim7.holds Tryz.pinned (.plain (OpenSpec.upto semLeftSpec)) semLeftUptoCard

/-- THE SECOND FORM's CARD OF 'bellwrightlaw.GenRight'. -/
def genRightUptoCard : Claim7 := { stood := { row := genRightUptoRow, standIns := [], harness := (true, "8cd6a3d0528a04e4fbca70750596ef3c1ad081a7af2c49fe72acefb6dcbd92fb"), looks := false }, kinds := [], alts := [], laidByText := true, laidKinds := [.data, .pinned], laidTests := true, laidLooks := .later }
def GenRightUptoCardSaid : Prop := Claim7.holds Tryz.pinned (.plain (OpenSpec.upto genRightSpec)) genRightUptoCard

/-- THE SECOND FORM's CARD OF 'bellwrightlaw.ObjChecks'. -/
def objChecksUptoCard : Claim7 := { stood := { row := objChecksUptoRow, standIns := [], harness := (true, "8cd6a3d0528a04e4fbca70750596ef3c1ad081a7af2c49fe72acefb6dcbd92fb"), looks := false }, kinds := [], alts := [], laidByText := true, laidKinds := [.data, .pinned], laidTests := true, laidLooks := .later }
def ObjChecksUptoCardSaid : Prop := Claim7.holds Tryz.pinned (.plain (OpenSpec.upto objChecksSpec)) objChecksUptoCard

/-- THE SECOND FORM's CARD OF 'bellwrightlaw.ObjWrites'. -/
def objWritesUptoCard : Claim7 := { stood := { row := objWritesUptoRow, standIns := [], harness := (true, "8cd6a3d0528a04e4fbca70750596ef3c1ad081a7af2c49fe72acefb6dcbd92fb"), looks := false }, kinds := [], alts := [], laidByText := true, laidKinds := [.data, .pinned], laidTests := true, laidLooks := .later }
def ObjWritesUptoCardSaid : Prop := Claim7.holds Tryz.pinned (.plain (OpenSpec.upto objWritesSpec)) objWritesUptoCard

/-- THE SECOND FORM's CARD OF 'bellwrightlaw.ObjBack'. -/
def objBackUptoCard : Claim7 := { stood := { row := objBackUptoRow, standIns := [], harness := (true, "8cd6a3d0528a04e4fbca70750596ef3c1ad081a7af2c49fe72acefb6dcbd92fb"), looks := false }, kinds := [], alts := [], laidByText := true, laidKinds := [.data, .pinned], laidTests := true, laidLooks := .later }
def ObjBackUptoCardSaid : Prop := Claim7.holds Tryz.pinned (.plain (OpenSpec.upto objBackSpec)) objBackUptoCard

/-- THE SECOND FORM's CARD OF 'bellwrightlaw.LinkLinks'. -/
def linkLinksUptoCard : Claim7 := { stood := { row := linkLinksUptoRow, standIns := [], harness := (true, "8cd6a3d0528a04e4fbca70750596ef3c1ad081a7af2c49fe72acefb6dcbd92fb"), looks := false }, kinds := [], alts := [], laidByText := true, laidKinds := [.data, .pinned], laidTests := true, laidLooks := .later }
def LinkLinksUptoCardSaid : Prop := Claim7.holds Tryz.pinned (.plain (OpenSpec.upto linkLinksSpec)) linkLinksUptoCard

/-- THE SECOND FORM's CARD OF 'bellwrightlaw.LinkRight'. -/
def linkRightUptoCard : Claim7 := { stood := { row := linkRightUptoRow, standIns := [], harness := (true, "8cd6a3d0528a04e4fbca70750596ef3c1ad081a7af2c49fe72acefb6dcbd92fb"), looks := false }, kinds := [], alts := [], laidByText := true, laidKinds := [.data, .pinned], laidTests := true, laidLooks := .later }
def LinkRightUptoCardSaid : Prop := Claim7.holds Tryz.pinned (.plain (OpenSpec.upto linkRightSpec)) linkRightUptoCard

/-- THE SECOND FORM's CARD OF 'bellwrightlaw.LinkSame'. -/
def linkSameUptoCard : Claim7 := { stood := { row := linkSameUptoRow, standIns := [], harness := (true, "8cd6a3d0528a04e4fbca70750596ef3c1ad081a7af2c49fe72acefb6dcbd92fb"), looks := false }, kinds := [], alts := [], laidByText := true, laidKinds := [.data, .pinned], laidTests := true, laidLooks := .later }
def LinkSameUptoCardSaid : Prop := Claim7.holds Tryz.pinned (.plain (OpenSpec.upto linkSameSpec)) linkSameUptoCard
end Rows
end Go.Proofs.YtndkhgakfodldaaGreatDoor
