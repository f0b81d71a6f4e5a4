/-
  The program's Peep: errors; the copy.
-/
import Derived.Test.YtpahhhhfhnpmjaaQf
import Derived.Deep.AppendLies
import Derived.Deep.RegionHeldLaw
import Derived.Deep.DeepCutAuto
import Derived.Deep.CutBlock
namespace Go.Proofs.Ytpahhhhfhnpmjaa
open Go.RowKit Go.Shelf
set_option maxRecDepth 100000

set_option maxHeartbeats 800000 in
theorem Peep_bad (a : Option Addr) (cap : Nat) (code : List Mc.Ins) (d : Int) (w : World) (hT : ImgAt w a code) (hl : code.length ≤ 1000000000000000) (h : ¬ checkI code d = 0) :
    Calls Try.prog 6 #[.agg #[.slice a code.length cap, .int .i64 d]] w fun e w' => e = .returned (.tuple #[.agg #[.slice none 0 0, .int .i64 0], .int .i64 (checkI code d)]) ∧ Below w.heap.size w w' := by
  have HC : Hid (∀ W, ImgAt W a code → Calls Try.prog 14 #[.agg #[.slice a code.length cap, .int .i64 d]] W fun e w' => e = .returned (.int .i64 (checkI code d)) ∧ Below W.heap.size W w') := fun W hW => Check_any a cap code d W hW hl
  have HT := hid hT
  obtain ⟨W0, hW0⟩ : ∃ W0 : World, W0 = (w.alloc (.cells #[.slice a code.length cap, .int .i64 d] 24)).alloc (.cells #[.slice none 0 0, .int .i64 0] 24) := ⟨_, rfl⟩
  have HB0 : Hid (Below w.heap.size w W0) := by rw [hW0]; exact ((Below.refl _ _).alloc (Nat.le_refl _) _).alloc (by simp) _
  have x0 : W0.cell? ⟨w.heap.size + 1, 0, none⟩ = some (.slice none 0 0) := by rw [hW0]; simp
  have x1 : W0.cell? ⟨w.heap.size + 1, 1, none⟩ = some (.int .i64 0) := by rw [hW0]; simp
  have f0 : W0.frozen? ⟨w.heap.size + 1, 0, none⟩ = false := by rw [hW0]; simp
  have f1 : W0.frozen? ⟨w.heap.size + 1, 1, none⟩ = false := by rw [hW0]; simp
  have hz : w.heap.size + 1 < W0.heap.size := by rw [hW0]; simp
  have HW0 := hid hW0
  generalize checkI code d = c at *
  clear hT hW0
  go_enter Try.func6, Try.ntmps6
  go_wp2_with fail
  rw [← HW0.out]
  refine (HC.out _ (HT.out.later HB0.out)).mono ?_
  rintro e w1 ⟨rfl, hb1⟩
  have y0 := (hb1.cell (p := ⟨w.heap.size + 1, 0, none⟩) hz).trans x0
  have y1 := (hb1.cell (p := ⟨w.heap.size + 1, 1, none⟩) hz).trans x1
  have g0 := (hb1.frozen (p := ⟨w.heap.size + 1, 0, none⟩) hz).trans f0
  have g1 := (hb1.frozen (p := ⟨w.heap.size + 1, 1, none⟩) hz).trans f1
  have HB1 := hid (HB0.out.trans (hb1.mono HB0.out.size))
  clear hb1 x0 x1 f0 f1
  go_wp2_with fail
  exact bodyPost_ret (v := .tuple #[.agg #[.slice none 0 0, .int .i64 0], .int .i64 c]) (by simp [results, Try.results6, go_sem, y0, y1]) rfl ⟨rfl, (HB1.out.setCell (p := ⟨w.heap.size + 1, 0, none⟩) (by show w.heap.size ≤ w.heap.size + 1; omega) _).setCell (p := ⟨w.heap.size + 1, 1, none⟩) (by show w.heap.size ≤ w.heap.size + 1; omega) _⟩

end Go.Proofs.Ytpahhhhfhnpmjaa
