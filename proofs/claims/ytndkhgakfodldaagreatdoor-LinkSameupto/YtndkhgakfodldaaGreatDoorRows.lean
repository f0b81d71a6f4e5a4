/-
  NARROWER THAN 'FOR EVERY INPUT', by the rows' own cells (each row's printed sentence says how): ScopeFaces: loops, laid · ScopeResolves: loops, laid · ScopeRight: loops, laid · SemMore: loops, laid · SemLeft: loops, laid · GenRight: loops, laid · ObjChecks: laid · ObjWrites: laid · ObjBack: laid · LinkLinks: laid · LinkRight: laid · LinkSame: loops, laid.
  DERIVED. THE GIVEN ROWS OF THIS SEAT. 12 by the template 'for every input the law returns true; each argument reads behind the call as it read before'; 0 by the template 'total and deterministic' (their statements: YtndkhgakfodldaaGreatDoorTotals.lean).
  GIVEN WITH THE SEED: the statements are not yours to turn. If you find one false, say at which input.
  Laid BY PROGRAM, IN A SANDBOX (cutbox-rows.mjs): the forced cells as the released guide's own fill.sh prints them over the translation a951c525dd1476c5… (all of the seat's roots in one cut). By AI agents, Wed Nov 11 2026. No macro, syntax, notation, axiom, sorry.
-/
import Derived.Test.YtndkhgakfodldaaGreatDoorChecked
import GoSem.PinnedTables
import GoSem.Claim
import GoSem.ClaimJoined
import GoSem.ClaimMapViews
import Derived.JoinedTies
import Derived.KernelRfl
namespace Go.Proofs.YtndkhgakfodldaaGreatDoor
/- THE CELL 'sum', in the pinned program and in every row, IS THE sha256 OF THE DUMP (.gsa) THAT YtndkhgakfodldaaGreatDoorProg.lean LOADS. Nothing in Lean hashes anything: it is a label: what it is worth is what the hold of that sum in a sandbox is worth. -/
noncomputable def Tryz.pinned : Pinned := { name := "ytndkhgakfodldaagreatdoor", sum := "a951c525dd1476c567931bf39638e67298f1421a4d65680cbbd99762fd5dc07d", checked := Tryz.checked }
namespace Rows
def none {H : Type} : Left H := { results := [], args := [] }

/- WHAT THE LISTED PACKAGE-LEVEL VARIABLES READ AS WHEN THE CALL BEGINS. Each datum BY PROGRAM (the guide's laid-datum.mjs) off the statement by which the dump's own 'gosem.cut.vars' lays the variable. In a bare row this is a premise. The card (YtndkhgakfodldaaGreatDoorCards.lean) ties it to the program's text. -/
def laid_unicode_utf8_acceptRanges {H : Type} : DataW H := .agg [.agg [.lit (.int .u8 128), .lit (.int .u8 191)], .agg [.lit (.int .u8 160), .lit (.int .u8 191)], .agg [.lit (.int .u8 128), .lit (.int .u8 159)], .agg [.lit (.int .u8 144), .lit (.int .u8 191)], .agg [.lit (.int .u8 128), .lit (.int .u8 143)], .agg [.lit (.int .u8 0), .lit (.int .u8 0)], .agg [.lit (.int .u8 0), .lit (.int .u8 0)], .agg [.lit (.int .u8 0), .lit (.int .u8 0)], .agg [.lit (.int .u8 0), .lit (.int .u8 0)], .agg [.lit (.int .u8 0), .lit (.int .u8 0)], .agg [.lit (.int .u8 0), .lit (.int .u8 0)], .agg [.lit (.int .u8 0), .lit (.int .u8 0)], .agg [.lit (.int .u8 0), .lit (.int .u8 0)], .agg [.lit (.int .u8 0), .lit (.int .u8 0)], .agg [.lit (.int .u8 0), .lit (.int .u8 0)], .agg [.lit (.int .u8 0), .lit (.int .u8 0)]]
/-- One of Go's own tables, pinned by name: the form's constant. -/
def laid_unicode_utf8_first : DataW Unit := Go.Pinned.utf8First

/-- 'bellwrightlaw.ScopeFaces': WHATEVER THE INPUT: true; the input reads as it did. -/
def scopeFacesSpec : ChangeSpec := { name := "scopeFaces", fn := fun _ => fun
  | [d1, d2] => { results := [.lit (.bool true)], args := [d1, d2] }
  | _ => none }
def scopeFacesRow : OpenClaim := { program := "ytndkhgakfodldaagreatdoor", sum := "a951c525dd1476c567931bf39638e67298f1421a4d65680cbbd99762fd5dc07d", func := "bellwright/bellwrightlaw.ScopeFaces", spec := "scopeFaces", inPlace := ["internal/bytealg.IndexByteString", "internal/bytealg.CountString", "internal/bytealg.IndexString"], unfollowed := true, recurses := true, named := ["unicode/utf8.first", "unicode/utf8.acceptRanges", "internal/bytealg.MaxLen"], loops := true, plainKeys := false, apart := false, laid := [("unicode/utf8.acceptRanges", laid_unicode_utf8_acceptRanges), ("unicode/utf8.first", laid_unicode_utf8_first)] }
def ScopeFacesSaid : Prop := scopeFacesRow.holds Tryz.pinned (OpenSpec.ofChange scopeFacesSpec)

/-- ITS FALSE NEIGHBOUR: 'it returns false'. Refute it at one input. -/
def scopeFacesWrong : ChangeSpec := { name := "scopeFaces", fn := fun _ => fun
  | [d1, d2] => { results := [.lit (.bool false)], args := [d1, d2] }
  | _ => none }
def ScopeFacesWrongFalsely : Prop := scopeFacesRow.holds Tryz.pinned (OpenSpec.ofChange scopeFacesWrong)

/-- 'bellwrightlaw.ScopeResolves': WHATEVER THE INPUT: true; the input reads as it did. -/
def scopeResolvesSpec : ChangeSpec := { name := "scopeResolves", fn := fun _ => fun
  | [d1, d2] => { results := [.lit (.bool true)], args := [d1, d2] }
  | _ => none }
def scopeResolvesRow : OpenClaim := { program := "ytndkhgakfodldaagreatdoor", sum := "a951c525dd1476c567931bf39638e67298f1421a4d65680cbbd99762fd5dc07d", func := "bellwright/bellwrightlaw.ScopeResolves", spec := "scopeResolves", inPlace := ["internal/bytealg.IndexByteString", "internal/bytealg.CountString", "internal/bytealg.IndexString"], unfollowed := true, recurses := true, named := ["unicode/utf8.first", "unicode/utf8.acceptRanges", "internal/bytealg.MaxLen"], loops := true, plainKeys := false, apart := false, laid := [("unicode/utf8.acceptRanges", laid_unicode_utf8_acceptRanges), ("unicode/utf8.first", laid_unicode_utf8_first)] }
def ScopeResolvesSaid : Prop := scopeResolvesRow.holds Tryz.pinned (OpenSpec.ofChange scopeResolvesSpec)

/-- ITS FALSE NEIGHBOUR: 'it returns false'. Refute it at one input. -/
def scopeResolvesWrong : ChangeSpec := { name := "scopeResolves", fn := fun _ => fun
  | [d1, d2] => { results := [.lit (.bool false)], args := [d1, d2] }
  | _ => none }
def ScopeResolvesWrongFalsely : Prop := scopeResolvesRow.holds Tryz.pinned (OpenSpec.ofChange scopeResolvesWrong)

/-- 'bellwrightlaw.ScopeRight': WHATEVER THE INPUT: true; the input reads as it did. -/
def scopeRightSpec : ChangeSpec := { name := "scopeRight", fn := fun _ => fun
  | [d1, d2] => { results := [.lit (.bool true)], args := [d1, d2] }
  | _ => none }
def scopeRightRow : OpenClaim := { program := "ytndkhgakfodldaagreatdoor", sum := "a951c525dd1476c567931bf39638e67298f1421a4d65680cbbd99762fd5dc07d", func := "bellwright/bellwrightlaw.ScopeRight", spec := "scopeRight", inPlace := ["internal/bytealg.IndexByteString", "internal/bytealg.CountString", "internal/bytealg.IndexString"], unfollowed := true, recurses := true, named := ["unicode/utf8.first", "unicode/utf8.acceptRanges", "internal/bytealg.MaxLen"], loops := true, plainKeys := false, apart := false, laid := [("unicode/utf8.acceptRanges", laid_unicode_utf8_acceptRanges), ("unicode/utf8.first", laid_unicode_utf8_first)] }
def ScopeRightSaid : Prop := scopeRightRow.holds Tryz.pinned (OpenSpec.ofChange scopeRightSpec)

/-- ITS FALSE NEIGHBOUR: 'it returns false'. Refute it at one input. -/
def scopeRightWrong : ChangeSpec := { name := "scopeRight", fn := fun _ => fun
  | [d1, d2] => { results := [.lit (.bool false)], args := [d1, d2] }
  | _ => none }
def ScopeRightWrongFalsely : Prop := scopeRightRow.holds Tryz.pinned (OpenSpec.ofChange scopeRightWrong)

/-- 'bellwrightlaw.SemMore': WHATEVER THE INPUT: true; the input reads as it did. -/
def semMoreSpec : ChangeSpec := { name := "semMore", fn := fun _ => fun
  | [d1, d2, d3, d4] => { results := [.lit (.bool true)], args := [d1, d2, d3, d4] }
  | _ => none }
def semMoreRow : OpenClaim := { program := "ytndkhgakfodldaagreatdoor", sum := "a951c525dd1476c567931bf39638e67298f1421a4d65680cbbd99762fd5dc07d", func := "bellwright/bellwrightlaw.SemMore", spec := "semMore", inPlace := ["internal/bytealg.IndexByteString", "internal/bytealg.CountString", "internal/bytealg.IndexString"], unfollowed := true, recurses := true, named := ["unicode/utf8.first", "unicode/utf8.acceptRanges", "internal/bytealg.MaxLen"], loops := true, plainKeys := false, apart := false, laid := [("unicode/utf8.acceptRanges", laid_unicode_utf8_acceptRanges), ("unicode/utf8.first", laid_unicode_utf8_first)] }
def SemMoreSaid : Prop := semMoreRow.holds Tryz.pinned (OpenSpec.ofChange semMoreSpec)

/-- ITS FALSE NEIGHBOUR: 'it returns false'. Refute it at one input. -/
def semMoreWrong : ChangeSpec := { name := "semMore", fn := fun _ => fun
  | [d1, d2, d3, d4] => { results := [.lit (.bool false)], args := [d1, d2, d3, d4] }
  | _ => none }
def SemMoreWrongFalsely : Prop := semMoreRow.holds Tryz.pinned (OpenSpec.ofChange semMoreWrong)

/-- 'bellwrightlaw.SemLeft': WHATEVER THE INPUT: true; the input reads as it did. -/
def semLeftSpec : ChangeSpec := { name := "semLeft", fn := fun _ => fun
  | [d1, d2, d3] => { results := [.lit (.bool true)], args := [d1, d2, d3] }
  | _ => none }
def semLeftRow : OpenClaim := { program := "ytndkhgakfodldaagreatdoor", sum := "a951c525dd1476c567931bf39638e67298f1421a4d65680cbbd99762fd5dc07d", func := "bellwright/bellwrightlaw.SemLeft", spec := "semLeft", inPlace := ["internal/bytealg.IndexByteString", "internal/bytealg.CountString", "internal/bytealg.IndexString"], unfollowed := true, recurses := true, named := ["unicode/utf8.first", "unicode/utf8.acceptRanges", "internal/bytealg.MaxLen"], loops := true, plainKeys := false, apart := false, laid := [("unicode/utf8.acceptRanges", laid_unicode_utf8_acceptRanges), ("unicode/utf8.first", laid_unicode_utf8_first)] }
def SemLeftSaid : Prop := semLeftRow.holds Tryz.pinned (OpenSpec.ofChange semLeftSpec)

/-- ITS FALSE NEIGHBOUR: 'it returns false'. Refute it at one input. -/
def semLeftWrong : ChangeSpec := { name := "semLeft", fn := fun _ => fun
  | [d1, d2, d3] => { results := [.lit (.bool false)], args := [d1, d2, d3] }
  | _ => none }
def SemLeftWrongFalsely : Prop := semLeftRow.holds Tryz.pinned (OpenSpec.ofChange semLeftWrong)

/-- 'bellwrightlaw.GenRight': WHATEVER THE INPUT: true; the input reads as it did. -/
def genRightSpec : ChangeSpec := { name := "genRight", fn := fun _ => fun
  | [d1, d2] => { results := [.lit (.bool true)], args := [d1, d2] }
  | _ => none }
def genRightRow : OpenClaim := { program := "ytndkhgakfodldaagreatdoor", sum := "a951c525dd1476c567931bf39638e67298f1421a4d65680cbbd99762fd5dc07d", func := "bellwright/bellwrightlaw.GenRight", spec := "genRight", inPlace := ["internal/bytealg.IndexByteString", "internal/bytealg.CountString", "internal/bytealg.IndexString"], unfollowed := true, recurses := true, named := ["unicode/utf8.first", "unicode/utf8.acceptRanges", "internal/bytealg.MaxLen"], loops := true, plainKeys := false, apart := false, laid := [("unicode/utf8.acceptRanges", laid_unicode_utf8_acceptRanges), ("unicode/utf8.first", laid_unicode_utf8_first)] }
def GenRightSaid : Prop := genRightRow.holds Tryz.pinned (OpenSpec.ofChange genRightSpec)

/-- ITS FALSE NEIGHBOUR: 'it returns false'. Refute it at one input. -/
def genRightWrong : ChangeSpec := { name := "genRight", fn := fun _ => fun
  | [d1, d2] => { results := [.lit (.bool false)], args := [d1, d2] }
  | _ => none }
def GenRightWrongFalsely : Prop := genRightRow.holds Tryz.pinned (OpenSpec.ofChange genRightWrong)

/-- 'bellwrightlaw.ObjChecks': WHATEVER THE INPUT: true; the input reads as it did. -/
def objChecksSpec : ChangeSpec := { name := "objChecks", fn := fun _ => fun
  | [d] => { results := [.lit (.bool true)], args := [d] }
  | _ => none }
def objChecksRow : OpenClaim := { program := "ytndkhgakfodldaagreatdoor", sum := "a951c525dd1476c567931bf39638e67298f1421a4d65680cbbd99762fd5dc07d", func := "bellwright/bellwrightlaw.ObjChecks", spec := "objChecks", inPlace := ["internal/bytealg.IndexByteString", "internal/bytealg.CountString", "internal/bytealg.IndexString"], unfollowed := true, recurses := true, named := ["unicode/utf8.first", "unicode/utf8.acceptRanges", "internal/bytealg.MaxLen"], plainKeys := false, apart := false, laid := [("unicode/utf8.acceptRanges", laid_unicode_utf8_acceptRanges), ("unicode/utf8.first", laid_unicode_utf8_first)] }
def ObjChecksSaid : Prop := objChecksRow.holds Tryz.pinned (OpenSpec.ofChange objChecksSpec)

/-- ITS FALSE NEIGHBOUR: 'it returns false'. Refute it at one input. -/
def objChecksWrong : ChangeSpec := { name := "objChecks", fn := fun _ => fun
  | [d] => { results := [.lit (.bool false)], args := [d] }
  | _ => none }
def ObjChecksWrongFalsely : Prop := objChecksRow.holds Tryz.pinned (OpenSpec.ofChange objChecksWrong)

/-- 'bellwrightlaw.ObjWrites': WHATEVER THE INPUT: true; the input reads as it did. -/
def objWritesSpec : ChangeSpec := { name := "objWrites", fn := fun _ => fun
  | [d1, d2] => { results := [.lit (.bool true)], args := [d1, d2] }
  | _ => none }
def objWritesRow : OpenClaim := { program := "ytndkhgakfodldaagreatdoor", sum := "a951c525dd1476c567931bf39638e67298f1421a4d65680cbbd99762fd5dc07d", func := "bellwright/bellwrightlaw.ObjWrites", spec := "objWrites", inPlace := ["internal/bytealg.IndexByteString", "internal/bytealg.CountString", "internal/bytealg.IndexString"], unfollowed := true, recurses := true, named := ["unicode/utf8.first", "unicode/utf8.acceptRanges", "internal/bytealg.MaxLen"], plainKeys := false, apart := false, laid := [("unicode/utf8.acceptRanges", laid_unicode_utf8_acceptRanges), ("unicode/utf8.first", laid_unicode_utf8_first)] }
def ObjWritesSaid : Prop := objWritesRow.holds Tryz.pinned (OpenSpec.ofChange objWritesSpec)

/-- ITS FALSE NEIGHBOUR: 'it returns false'. Refute it at one input. -/
def objWritesWrong : ChangeSpec := { name := "objWrites", fn := fun _ => fun
  | [d1, d2] => { results := [.lit (.bool false)], args := [d1, d2] }
  | _ => none }
def ObjWritesWrongFalsely : Prop := objWritesRow.holds Tryz.pinned (OpenSpec.ofChange objWritesWrong)

/-- 'bellwrightlaw.ObjBack': WHATEVER THE INPUT: true; the input reads as it did. -/
def objBackSpec : ChangeSpec := { name := "objBack", fn := fun _ => fun
  | [d1, d2] => { results := [.lit (.bool true)], args := [d1, d2] }
  | _ => none }
def objBackRow : OpenClaim := { program := "ytndkhgakfodldaagreatdoor", sum := "a951c525dd1476c567931bf39638e67298f1421a4d65680cbbd99762fd5dc07d", func := "bellwright/bellwrightlaw.ObjBack", spec := "objBack", inPlace := ["internal/bytealg.IndexByteString", "internal/bytealg.CountString", "internal/bytealg.IndexString"], unfollowed := true, recurses := true, named := ["unicode/utf8.first", "unicode/utf8.acceptRanges", "internal/bytealg.MaxLen"], plainKeys := false, apart := false, laid := [("unicode/utf8.acceptRanges", laid_unicode_utf8_acceptRanges), ("unicode/utf8.first", laid_unicode_utf8_first)] }
def ObjBackSaid : Prop := objBackRow.holds Tryz.pinned (OpenSpec.ofChange objBackSpec)

/-- ITS FALSE NEIGHBOUR: 'it returns false'. Refute it at one input. -/
def objBackWrong : ChangeSpec := { name := "objBack", fn := fun _ => fun
  | [d1, d2] => { results := [.lit (.bool false)], args := [d1, d2] }
  | _ => none }
def ObjBackWrongFalsely : Prop := objBackRow.holds Tryz.pinned (OpenSpec.ofChange objBackWrong)

/-- 'bellwrightlaw.LinkLinks': WHATEVER THE INPUT: true; the input reads as it did. -/
def linkLinksSpec : ChangeSpec := { name := "linkLinks", fn := fun _ => fun
  | [d] => { results := [.lit (.bool true)], args := [d] }
  | _ => none }
def linkLinksRow : OpenClaim := { program := "ytndkhgakfodldaagreatdoor", sum := "a951c525dd1476c567931bf39638e67298f1421a4d65680cbbd99762fd5dc07d", func := "bellwright/bellwrightlaw.LinkLinks", spec := "linkLinks", inPlace := ["internal/bytealg.IndexByteString", "internal/bytealg.CountString", "internal/bytealg.IndexString"], unfollowed := true, recurses := true, named := ["unicode/utf8.first", "unicode/utf8.acceptRanges", "internal/bytealg.MaxLen"], plainKeys := false, apart := false, laid := [("unicode/utf8.acceptRanges", laid_unicode_utf8_acceptRanges), ("unicode/utf8.first", laid_unicode_utf8_first)] }
def LinkLinksSaid : Prop := linkLinksRow.holds Tryz.pinned (OpenSpec.ofChange linkLinksSpec)

/-- ITS FALSE NEIGHBOUR: 'it returns false'. Refute it at one input. -/
def linkLinksWrong : ChangeSpec := { name := "linkLinks", fn := fun _ => fun
  | [d] => { results := [.lit (.bool false)], args := [d] }
  | _ => none }
def LinkLinksWrongFalsely : Prop := linkLinksRow.holds Tryz.pinned (OpenSpec.ofChange linkLinksWrong)

/-- 'bellwrightlaw.LinkRight': WHATEVER THE INPUT: true; the input reads as it did. -/
def linkRightSpec : ChangeSpec := { name := "linkRight", fn := fun _ => fun
  | [d] => { results := [.lit (.bool true)], args := [d] }
  | _ => none }
def linkRightRow : OpenClaim := { program := "ytndkhgakfodldaagreatdoor", sum := "a951c525dd1476c567931bf39638e67298f1421a4d65680cbbd99762fd5dc07d", func := "bellwright/bellwrightlaw.LinkRight", spec := "linkRight", inPlace := ["internal/bytealg.IndexByteString", "internal/bytealg.CountString", "internal/bytealg.IndexString"], unfollowed := true, recurses := true, named := ["unicode/utf8.first", "unicode/utf8.acceptRanges", "internal/bytealg.MaxLen"], plainKeys := false, apart := false, laid := [("unicode/utf8.acceptRanges", laid_unicode_utf8_acceptRanges), ("unicode/utf8.first", laid_unicode_utf8_first)] }
def LinkRightSaid : Prop := linkRightRow.holds Tryz.pinned (OpenSpec.ofChange linkRightSpec)

/-- ITS FALSE NEIGHBOUR: 'it returns false'. Refute it at one input. -/
def linkRightWrong : ChangeSpec := { name := "linkRight", fn := fun _ => fun
  | [d] => { results := [.lit (.bool false)], args := [d] }
  | _ => none }
def LinkRightWrongFalsely : Prop := linkRightRow.holds Tryz.pinned (OpenSpec.ofChange linkRightWrong)

/-- 'bellwrightlaw.LinkSame': WHATEVER THE INPUT: true; the input reads as it did. -/
def linkSameSpec : ChangeSpec := { name := "linkSame", fn := fun _ => fun
  | [d1, d2, d3] => { results := [.lit (.bool true)], args := [d1, d2, d3] }
  | _ => none }
def linkSameRow : OpenClaim := { program := "ytndkhgakfodldaagreatdoor", sum := "a951c525dd1476c567931bf39638e67298f1421a4d65680cbbd99762fd5dc07d", func := "bellwright/bellwrightlaw.LinkSame", spec := "linkSame", inPlace := ["internal/bytealg.IndexByteString", "internal/bytealg.CountString", "internal/bytealg.IndexString"], unfollowed := true, recurses := true, named := ["unicode/utf8.first", "unicode/utf8.acceptRanges", "internal/bytealg.MaxLen"], loops := true, plainKeys := false, apart := false, laid := [("unicode/utf8.acceptRanges", laid_unicode_utf8_acceptRanges), ("unicode/utf8.first", laid_unicode_utf8_first)] }
def LinkSameSaid : Prop := linkSameRow.holds Tryz.pinned (OpenSpec.ofChange linkSameSpec)

/-- ITS FALSE NEIGHBOUR: 'it returns false'. Refute it at one input. -/
def linkSameWrong : ChangeSpec := { name := "linkSame", fn := fun _ => fun
  | [d1, d2, d3] => { results := [.lit (.bool false)], args := [d1, d2, d3] }
  | _ => none }
def LinkSameWrongFalsely : Prop := linkSameRow.holds Tryz.pinned (OpenSpec.ofChange linkSameWrong)

/- THE SECOND FORM. 'bulk': how many values and letters a reading holds, each counted each time it is reached (what is shared counts as often as it is met; a slice's spare places count too). A statement '..UptoSaid' is the law's where the arguments, and the package variables that the reading takes, are together of bulk at most 1048576: NARROWER than '..Said'. Prove '..Said' where nothing that the law and all that it calls make is longer than what came in: it says more and counts as full. Else prove '..UptoSaid'. A law counts once. -/
mutual
def uptoBulk {H : Type} : DataW H → Nat
  | .lit (.string bytes) => bytes.length + 1
  | .lit _ => 1
  | .nil => 1
  | .ptr d => uptoBulk d + 1
  | .slice elems spare => uptoBulkAll elems + uptoBulkAll spare + 1
  | .agg parts => uptoBulkAll parts + 1
  | .iface _ d => uptoBulk d + 1
  | .map entries => uptoBulkEntries entries + 1
  | .held _ => 1
def uptoBulkAll {H : Type} : List (DataW H) → Nat
  | [] => 0
  | d :: r => uptoBulk d + uptoBulkAll r
def uptoBulkEntries {H : Type} : List (Lit × DataW H) → Nat
  | [] => 0
  | x :: r => uptoBulkEntry x + uptoBulkEntries r
def uptoBulkEntry {H : Type} : Lit × DataW H → Nat
  | (.string bytes, d) => bytes.length + uptoBulk d + 1
  | (_, d) => uptoBulk d + 1
 end
def uptoSmall : (H : Type) → List (DataW H) → Bool := fun _ ds => decide (uptoBulkAll ds ≤ 1048576)
def OpenSpec.upto (s : _root_.Go.ChangeSpec) : _root_.Go.OpenSpec := { _root_.Go.OpenSpec.ofChange s with cond := some uptoSmall }

/-- 'bellwrightlaw.ScopeFaces', WHERE WHAT IT READS IS OF BULK AT MOST 1048576: true; the input reads as it did. -/
def scopeFacesUptoRow : OpenClaim := { program := "ytndkhgakfodldaagreatdoor", sum := "a951c525dd1476c567931bf39638e67298f1421a4d65680cbbd99762fd5dc07d", func := "bellwright/bellwrightlaw.ScopeFaces", spec := "scopeFaces", inPlace := ["internal/bytealg.IndexByteString", "internal/bytealg.CountString", "internal/bytealg.IndexString"], unfollowed := true, recurses := true, named := ["unicode/utf8.first", "unicode/utf8.acceptRanges", "internal/bytealg.MaxLen"], loops := true, plainKeys := false, apart := false, laid := [("unicode/utf8.acceptRanges", laid_unicode_utf8_acceptRanges), ("unicode/utf8.first", laid_unicode_utf8_first)], narrowed := true }
def ScopeFacesUptoSaid : Prop := scopeFacesUptoRow.holds Tryz.pinned (OpenSpec.upto scopeFacesSpec)

/-- 'bellwrightlaw.ScopeResolves', WHERE WHAT IT READS IS OF BULK AT MOST 1048576: true; the input reads as it did. -/
def scopeResolvesUptoRow : OpenClaim := { program := "ytndkhgakfodldaagreatdoor", sum := "a951c525dd1476c567931bf39638e67298f1421a4d65680cbbd99762fd5dc07d", func := "bellwright/bellwrightlaw.ScopeResolves", spec := "scopeResolves", inPlace := ["internal/bytealg.IndexByteString", "internal/bytealg.CountString", "internal/bytealg.IndexString"], unfollowed := true, recurses := true, named := ["unicode/utf8.first", "unicode/utf8.acceptRanges", "internal/bytealg.MaxLen"], loops := true, plainKeys := false, apart := false, laid := [("unicode/utf8.acceptRanges", laid_unicode_utf8_acceptRanges), ("unicode/utf8.first", laid_unicode_utf8_first)], narrowed := true }
def ScopeResolvesUptoSaid : Prop := scopeResolvesUptoRow.holds Tryz.pinned (OpenSpec.upto scopeResolvesSpec)

/-- 'bellwrightlaw.ScopeRight', WHERE WHAT IT READS IS OF BULK AT MOST 1048576: true; the input reads as it did. -/
def scopeRightUptoRow : OpenClaim := { program := "ytndkhgakfodldaagreatdoor", sum := "a951c525dd1476c567931bf39638e67298f1421a4d65680cbbd99762fd5dc07d", func := "bellwright/bellwrightlaw.ScopeRight", spec := "scopeRight", inPlace := ["internal/bytealg.IndexByteString", "internal/bytealg.CountString", "internal/bytealg.IndexString"], unfollowed := true, recurses := true, named := ["unicode/utf8.first", "unicode/utf8.acceptRanges", "internal/bytealg.MaxLen"], loops := true, plainKeys := false, apart := false, laid := [("unicode/utf8.acceptRanges", laid_unicode_utf8_acceptRanges), ("unicode/utf8.first", laid_unicode_utf8_first)], narrowed := true }
def ScopeRightUptoSaid : Prop := scopeRightUptoRow.holds Tryz.pinned (OpenSpec.upto scopeRightSpec)

/-- 'bellwrightlaw.SemMore', WHERE WHAT IT READS IS OF BULK AT MOST 1048576: true; the input reads as it did. -/
def semMoreUptoRow : OpenClaim := { program := "ytndkhgakfodldaagreatdoor", sum := "a951c525dd1476c567931bf39638e67298f1421a4d65680cbbd99762fd5dc07d", func := "bellwright/bellwrightlaw.SemMore", spec := "semMore", inPlace := ["internal/bytealg.IndexByteString", "internal/bytealg.CountString", "internal/bytealg.IndexString"], unfollowed := true, recurses := true, named := ["unicode/utf8.first", "unicode/utf8.acceptRanges", "internal/bytealg.MaxLen"], loops := true, plainKeys := false, apart := false, laid := [("unicode/utf8.acceptRanges", laid_unicode_utf8_acceptRanges), ("unicode/utf8.first", laid_unicode_utf8_first)], narrowed := true }
def SemMoreUptoSaid : Prop := semMoreUptoRow.holds Tryz.pinned (OpenSpec.upto semMoreSpec)

/-- 'bellwrightlaw.SemLeft', WHERE WHAT IT READS IS OF BULK AT MOST 1048576: true; the input reads as it did. -/
def semLeftUptoRow : OpenClaim := { program := "ytndkhgakfodldaagreatdoor", sum := "a951c525dd1476c567931bf39638e67298f1421a4d65680cbbd99762fd5dc07d", func := "bellwright/bellwrightlaw.SemLeft", spec := "semLeft", inPlace := ["internal/bytealg.IndexByteString", "internal/bytealg.CountString", "internal/bytealg.IndexString"], unfollowed := true, recurses := true, named := ["unicode/utf8.first", "unicode/utf8.acceptRanges", "internal/bytealg.MaxLen"], loops := true, plainKeys := false, apart := false, laid := [("unicode/utf8.acceptRanges", laid_unicode_utf8_acceptRanges), ("unicode/utf8.first", laid_unicode_utf8_first)], narrowed := true }
def SemLeftUptoSaid : Prop := semLeftUptoRow.holds Tryz.pinned (OpenSpec.upto semLeftSpec)

/-- 'bellwrightlaw.GenRight', WHERE WHAT IT READS IS OF BULK AT MOST 1048576: true; the input reads as it did. -/
def genRightUptoRow : OpenClaim := { program := "ytndkhgakfodldaagreatdoor", sum := "a951c525dd1476c567931bf39638e67298f1421a4d65680cbbd99762fd5dc07d", func := "bellwright/bellwrightlaw.GenRight", spec := "genRight", inPlace := ["internal/bytealg.IndexByteString", "internal/bytealg.CountString", "internal/bytealg.IndexString"], unfollowed := true, recurses := true, named := ["unicode/utf8.first", "unicode/utf8.acceptRanges", "internal/bytealg.MaxLen"], loops := true, plainKeys := false, apart := false, laid := [("unicode/utf8.acceptRanges", laid_unicode_utf8_acceptRanges), ("unicode/utf8.first", laid_unicode_utf8_first)], narrowed := true }
def GenRightUptoSaid : Prop := genRightUptoRow.holds Tryz.pinned (OpenSpec.upto genRightSpec)

/-- 'bellwrightlaw.ObjChecks', WHERE WHAT IT READS IS OF BULK AT MOST 1048576: true; the input reads as it did. -/
def objChecksUptoRow : OpenClaim := { program := "ytndkhgakfodldaagreatdoor", sum := "a951c525dd1476c567931bf39638e67298f1421a4d65680cbbd99762fd5dc07d", func := "bellwright/bellwrightlaw.ObjChecks", spec := "objChecks", inPlace := ["internal/bytealg.IndexByteString", "internal/bytealg.CountString", "internal/bytealg.IndexString"], unfollowed := true, recurses := true, named := ["unicode/utf8.first", "unicode/utf8.acceptRanges", "internal/bytealg.MaxLen"], plainKeys := false, apart := false, laid := [("unicode/utf8.acceptRanges", laid_unicode_utf8_acceptRanges), ("unicode/utf8.first", laid_unicode_utf8_first)], narrowed := true }
def ObjChecksUptoSaid : Prop := objChecksUptoRow.holds Tryz.pinned (OpenSpec.upto objChecksSpec)

/-- 'bellwrightlaw.ObjWrites', WHERE WHAT IT READS IS OF BULK AT MOST 1048576: true; the input reads as it did. -/
def objWritesUptoRow : OpenClaim := { program := "ytndkhgakfodldaagreatdoor", sum := "a951c525dd1476c567931bf39638e67298f1421a4d65680cbbd99762fd5dc07d", func := "bellwright/bellwrightlaw.ObjWrites", spec := "objWrites", inPlace := ["internal/bytealg.IndexByteString", "internal/bytealg.CountString", "internal/bytealg.IndexString"], unfollowed := true, recurses := true, named := ["unicode/utf8.first", "unicode/utf8.acceptRanges", "internal/bytealg.MaxLen"], plainKeys := false, apart := false, laid := [("unicode/utf8.acceptRanges", laid_unicode_utf8_acceptRanges), ("unicode/utf8.first", laid_unicode_utf8_first)], narrowed := true }
def ObjWritesUptoSaid : Prop := objWritesUptoRow.holds Tryz.pinned (OpenSpec.upto objWritesSpec)

/-- 'bellwrightlaw.ObjBack', WHERE WHAT IT READS IS OF BULK AT MOST 1048576: true; the input reads as it did. -/
def objBackUptoRow : OpenClaim := { program := "ytndkhgakfodldaagreatdoor", sum := "a951c525dd1476c567931bf39638e67298f1421a4d65680cbbd99762fd5dc07d", func := "bellwright/bellwrightlaw.ObjBack", spec := "objBack", inPlace := ["internal/bytealg.IndexByteString", "internal/bytealg.CountString", "internal/bytealg.IndexString"], unfollowed := true, recurses := true, named := ["unicode/utf8.first", "unicode/utf8.acceptRanges", "internal/bytealg.MaxLen"], plainKeys := false, apart := false, laid := [("unicode/utf8.acceptRanges", laid_unicode_utf8_acceptRanges), ("unicode/utf8.first", laid_unicode_utf8_first)], narrowed := true }
def ObjBackUptoSaid : Prop := objBackUptoRow.holds Tryz.pinned (OpenSpec.upto objBackSpec)

/-- 'bellwrightlaw.LinkLinks', WHERE WHAT IT READS IS OF BULK AT MOST 1048576: true; the input reads as it did. -/
def linkLinksUptoRow : OpenClaim := { program := "ytndkhgakfodldaagreatdoor", sum := "a951c525dd1476c567931bf39638e67298f1421a4d65680cbbd99762fd5dc07d", func := "bellwright/bellwrightlaw.LinkLinks", spec := "linkLinks", inPlace := ["internal/bytealg.IndexByteString", "internal/bytealg.CountString", "internal/bytealg.IndexString"], unfollowed := true, recurses := true, named := ["unicode/utf8.first", "unicode/utf8.acceptRanges", "internal/bytealg.MaxLen"], plainKeys := false, apart := false, laid := [("unicode/utf8.acceptRanges", laid_unicode_utf8_acceptRanges), ("unicode/utf8.first", laid_unicode_utf8_first)], narrowed := true }
def LinkLinksUptoSaid : Prop := linkLinksUptoRow.holds Tryz.pinned (OpenSpec.upto linkLinksSpec)

/-- 'bellwrightlaw.LinkRight', WHERE WHAT IT READS IS OF BULK AT MOST 1048576: true; the input reads as it did. -/
def linkRightUptoRow : OpenClaim := { program := "ytndkhgakfodldaagreatdoor", sum := "a951c525dd1476c567931bf39638e67298f1421a4d65680cbbd99762fd5dc07d", func := "bellwright/bellwrightlaw.LinkRight", spec := "linkRight", inPlace := ["internal/bytealg.IndexByteString", "internal/bytealg.CountString", "internal/bytealg.IndexString"], unfollowed := true, recurses := true, named := ["unicode/utf8.first", "unicode/utf8.acceptRanges", "internal/bytealg.MaxLen"], plainKeys := false, apart := false, laid := [("unicode/utf8.acceptRanges", laid_unicode_utf8_acceptRanges), ("unicode/utf8.first", laid_unicode_utf8_first)], narrowed := true }
def LinkRightUptoSaid : Prop := linkRightUptoRow.holds Tryz.pinned (OpenSpec.upto linkRightSpec)

/-- 'bellwrightlaw.LinkSame', WHERE WHAT IT READS IS OF BULK AT MOST 1048576: true; the input reads as it did. -/
def linkSameUptoRow : OpenClaim := { program := "ytndkhgakfodldaagreatdoor", sum := "a951c525dd1476c567931bf39638e67298f1421a4d65680cbbd99762fd5dc07d", func := "bellwright/bellwrightlaw.LinkSame", spec := "linkSame", inPlace := ["internal/bytealg.IndexByteString", "internal/bytealg.CountString", "internal/bytealg.IndexString"], unfollowed := true, recurses := true, named := ["unicode/utf8.first", "unicode/utf8.acceptRanges", "internal/bytealg.MaxLen"], loops := true, plainKeys := false, apart := false, laid := [("unicode/utf8.acceptRanges", laid_unicode_utf8_acceptRanges), ("unicode/utf8.first", laid_unicode_utf8_first)], narrowed := true }
def LinkSameUptoSaid : Prop := linkSameUptoRow.holds Tryz.pinned (OpenSpec.upto linkSameSpec)

end Rows
end Go.Proofs.YtndkhgakfodldaaGreatDoor
