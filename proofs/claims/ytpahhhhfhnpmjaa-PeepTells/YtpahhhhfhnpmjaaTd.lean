/-
  PeepTells, both cases.
-/
import Derived.Test.YtpahhhhfhnpmjaaTc
import Derived.Test.YtpahhhhfhnpmjaaRb
import Derived.Test.YtpahhhhfhnpmjaaSc
namespace Go.Proofs.Ytpahhhhfhnpmjaa
open Go.RowKit Go.Shelf

theorem PeepTells_c (a : Option Addr) (cap : Nat) (code : List Mc.Ins) (d : Int) (w : World) (hT : ImgAt w a code) (hl : code.length ≤ 1000000000000000) :
    Calls Try.prog 3 #[.agg #[.slice a code.length cap, .int .i64 d]] w fun e w' => e = .returned (.bool true) ∧ Below w.heap.size w w' := by
  by_cases hc : checkI code d = 0
  · obtain ⟨h0, h1, _, _, _⟩ := check_zero hc
    refine tells_ok a code.length cap d (Mc.marks code) (Mc.peep code) w (Mc.marksTo_len code _) (peep_len code) h1
      (fun W hb => (Marks_ok a cap code d W (hT.later hb) hc).mono fun e w' ⟨g, he, _, h2, h3⟩ => ⟨g, he, h2, h3⟩)
      (fun W hb => (Peep_ok a cap code d W (hT.later hb) hc).mono fun e w' ⟨g, gc, he, _, h2, h3⟩ => ⟨g, gc, he, h2, h3⟩)
      (fun W hb => by rw [← hc]; exact CheckImage_any a cap code d W (hT.later hb) hl)
      (fun W hb => MarksOf_any a cap code d W (hT.later hb) h0 h1)
      (fun W hb => PeepOf_any a cap code d W (hT.later hb) hc)
  · exact tells_bad a code.length cap d (checkI code d) w hc
      (fun W hb => Marks_bad a cap code d W (hT.later hb) hl hc)
      (fun W hb => Peep_bad a cap code d W (hT.later hb) hl hc)
      (fun W hb => CheckImage_any a cap code d W (hT.later hb) hl)

end Go.Proofs.Ytpahhhhfhnpmjaa
