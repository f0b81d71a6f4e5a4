/-
  Check and Run answer just what the document says: the statement MachRuns, as a contract of its function, in whatever case: each call answers true and changes nothing that was there.
-/
import Derived.Test.YtljdoholcdhkhaaHl
namespace Go.Proofs.Ytljdoholcdhkhaa
open Go.RowKit Go.Shelf
set_option maxRecDepth 100000

theorem MachRuns_bad (a ia : Option Addr) (cap icap : Nat) (code : List Mc.Ins) (d : Int) (inp : List Int) (ticks steps n : Int) (w : World) (hT : ImgAt w a code) (hl : code.length ≤ 1000000000000000) (hfit : ∀ i ∈ code, InsFit i)
    (hI : NumsAt w ia inp) (hil : inp.length ≤ 1000000000000000) (hic : inp.length ≤ icap) (him : icap ≤ maxLen)
    (hF : steps ≤ 134217728 → ∀ W, Calls Try.prog 5 #[.int .i64 steps] W fun en w' => en = .returned (.int .i64 n) ∧ w' = W) (hn : 134217728 < steps → n = steps) (h0 : errR code d inp.length ticks n ≠ 0) :
    Calls Try.prog 3 #[.agg #[.slice a code.length cap, .int .i64 d], .slice ia inp.length icap, .int .i64 ticks, .int .i64 steps] w fun e w' => e = .returned (.bool true) ∧ Below w.heap.size w w' := by
  have hre := ref_err code d inp.length ticks n
  have hans : ansR code d inp ticks n = ⟨0, [], [], 0, 0, errR code d inp.length ticks n⟩ := if_neg h0
  refine MachRuns_no a ia cap icap code.length inp.length d ticks steps n (checkI code d) (runErr inp.length ticks) (errR code d inp.length ticks n) ⟨0, [], [], 0, 0, errR code d inp.length ticks n⟩ w ⟨rfl, rfl, rfl, rfl⟩ hF hn (fun W hb => ?_) (fun W hb => Check_any a cap code d W (hT.later hb) hl) (fun W hb => CheckImage_any a cap code d W (hT.later hb) hl) (fun W => RunError_any ia inp.length icap ticks W) ?_
  · have := Run_any a ia cap icap code d inp ticks n W (hT.later hb) hl hfit (hI.later hb) hil hic him
    rw [hans] at this
    exact this.mono fun e w' ⟨oa, oc, da, dc, k1, _, _, k4, _⟩ => ⟨oa, oc, da, dc, k1, k4⟩
  · by_cases hC : checkI code d = 0
    · rw [if_pos hC] at hre
      by_cases hU : runErr inp.length ticks = 0
      · rw [if_pos hU] at hre
        by_cases hN : n < 0 ∨ 134217728 < n
        · rw [if_pos hN] at hre
          exact Or.inr (Or.inr ⟨hC, hU, hre, hN⟩)
        · rw [if_neg hN] at hre
          exact absurd hre h0
      · rw [if_neg hU] at hre
        exact Or.inr (Or.inl ⟨hC, hU, hre⟩)
    · rw [if_neg hC] at hre
      exact Or.inl ⟨hC, hre⟩

theorem MachRuns_c (a ia : Option Addr) (cap icap : Nat) (code : List Mc.Ins) (d : Int) (inp : List Int) (ticks steps : Int) (w : World) (hT : ImgAt w a code) (hl : code.length ≤ 1000000000000000) (hfit : ∀ i ∈ code, InsFit i)
    (hI : NumsAt w ia inp) (hil : inp.length ≤ 1000000000000000) (hic : inp.length ≤ icap) (him : icap ≤ maxLen) :
    Calls Try.prog 3 #[.agg #[.slice a code.length cap, .int .i64 d], .slice ia inp.length icap, .int .i64 ticks, .int .i64 steps] w fun e w' => e = .returned (.bool true) ∧ Below w.heap.size w w' := by
  by_cases hst : steps ≤ 134217728
  · by_cases h0 : errR code d inp.length ticks (if 16384 < steps then 16384 else steps) = 0
    · exact MachRuns_ok a ia cap icap code d inp ticks steps w hT hl hfit hI hil hic him hst h0
    · exact MachRuns_bad a ia cap icap code d inp ticks steps _ w hT hl hfit hI hil hic him (fun _ W => few_any steps W) (fun h => by omega) h0
  · refine MachRuns_bad a ia cap icap code d inp ticks steps steps w hT hl hfit hI hil hic him (fun h => absurd h hst) (fun _ => rfl) (fun h => ?_)
    obtain ⟨_, _, _, _, _, _, h1⟩ := errR_zero h
    exact hst h1

end Go.Proofs.Ytljdoholcdhkhaa
