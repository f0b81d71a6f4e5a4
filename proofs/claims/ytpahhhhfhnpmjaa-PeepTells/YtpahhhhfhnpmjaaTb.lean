/-
  PeepTells: its walks.
-/
import Derived.Test.YtpahhhhfhnpmjaaTa
namespace Go.Proofs.Ytpahhhhfhnpmjaa
open Go.RowKit Go.Shelf
set_option maxRecDepth 100000

set_option maxHeartbeats 3200000 in
theorem tells_bad (a : Option Addr) (n cap : Nat) (d c : Int) (w : World) (hc : ¬ c = 0)
    (h5 : ∀ W, Below w.heap.size w W → Calls Try.prog 5 #[.agg #[.slice a n cap, .int .i64 d]] W fun e w' => e = .returned (.tuple #[.slice none 0 0, .int .i64 c]) ∧ Below W.heap.size W w')
    (h6 : ∀ W, Below w.heap.size w W → Calls Try.prog 6 #[.agg #[.slice a n cap, .int .i64 d]] W fun e w' => e = .returned (.tuple #[.agg #[.slice none 0 0, .int .i64 0], .int .i64 c]) ∧ Below W.heap.size W w')
    (h7 : ∀ W, Below w.heap.size w W → Calls Try.prog 7 #[.agg #[.slice a n cap, .int .i64 d]] W fun e w' => e = .returned (.int .i64 c) ∧ Below W.heap.size W w') :
    Calls Try.prog 3 #[.agg #[.slice a n cap, .int .i64 d]] w fun e w' => e = .returned (.bool true) ∧ Below w.heap.size w w' := by
  have H5 := hid h5
  have H6 := hid h6
  have H7 := hid h7
  have HB := hid peepBegun_any
  have HS : Hid (∀ W, Calls Try.prog 11 #[.agg #[.slice none 0 0, .int .i64 0], .agg #[.slice none 0 0, .int .i64 0]] W fun e w' => e = .returned (.bool true) ∧ Below W.heap.size W w') := fun W => SameImages_same [] 0 rfl none none 0 0 0 W (Or.inl rfl) (Or.inl rfl) (by decide)
  have hcb : (c == 0) = false := beq_eq_false_iff_ne.2 hc
  obtain ⟨W0, hW0⟩ : ∃ W0 : World, W0 = w.alloc (.cells #[.slice a n cap, .int .i64 d] 24) := ⟨_, rfl⟩
  have HB0 : Hid (Below w.heap.size w W0) := by rw [hW0]; exact (Below.refl _ _).alloc (Nat.le_refl _) _
  have hs0 : w.heap.size < W0.heap.size := by rw [hW0]; simp
  have x0 : W0.cell? ⟨w.heap.size, 0, none⟩ = some (.slice a n cap) := by rw [hW0]; simp
  have x1 : W0.cell? ⟨w.heap.size, 1, none⟩ = some (.int .i64 d) := by rw [hW0]; simp
  have HW0 := hid hW0
  clear h5 h6 h7 hW0
  go_enter Try.func3, Try.ntmps3
  go_wp2_with fail
  rw [← HW0.out]
  refine (H5.out _ HB0.out).mono ?_
  rintro e w1 ⟨rfl, hb1⟩
  have i0 := (hb1.cell (p := ⟨w.heap.size, 0, none⟩) hs0).trans x0
  have i1 := (hb1.cell (p := ⟨w.heap.size, 1, none⟩) hs0).trans x1
  have hs1 : w.heap.size < w1.heap.size := by have := hb1.size; omega
  have HB1 := hid (HB0.out.trans (hb1.mono HB0.out.size))
  clear hb1 x0 x1 hs0 HB0 HW0
  go_wp2_with fail
  refine (H6.out _ HB1.out).mono ?_
  rintro e w2 ⟨rfl, hb2⟩
  have j0 := (hb2.cell (p := ⟨w.heap.size, 0, none⟩) hs1).trans i0
  have j1 := (hb2.cell (p := ⟨w.heap.size, 1, none⟩) hs1).trans i1
  have hs2 : w.heap.size < w2.heap.size := by have := hb2.size; omega
  have HB2 := hid (HB1.out.trans (hb2.mono HB1.out.size))
  clear hb2 i0 i1 hs1 HB1
  obtain ⟨W3, hW3⟩ : ∃ W3 : World, W3 = w2.alloc (.cells #[.slice none 0 0, .int .i64 0] 24) := ⟨_, rfl⟩
  have HB3 : Hid (Below w.heap.size w W3) := by rw [hW3]; exact HB2.out.alloc HB2.out.size _
  have hs3 : w2.heap.size < W3.heap.size := by rw [hW3]; simp
  have p0 : W3.cell? ⟨w2.heap.size, 0, none⟩ = some (.slice none 0 0) := by rw [hW3]; simp
  have p1 : W3.cell? ⟨w2.heap.size, 1, none⟩ = some (.int .i64 0) := by rw [hW3]; simp
  have HW3 := hid hW3
  clear hW3
  go_wp2_with fail
  rw [← HW3.out]
  refine (H7.out _ HB3.out).mono ?_
  rintro e w4 ⟨rfl, hb4⟩
  have q0 := (hb4.cell (p := ⟨w2.heap.size, 0, none⟩) hs3).trans p0
  have q1 := (hb4.cell (p := ⟨w2.heap.size, 1, none⟩) hs3).trans p1
  have hs4 : w2.heap.size < w4.heap.size := by have := hb4.size; omega
  have HB4 := hid (HB3.out.trans (hb4.mono HB3.out.size))
  clear hb4 p0 p1 hs3 HB3 HW3 j0 j1 hs2 HB2
  generalize w2.heap.size = pb at *
  obtain ⟨W5, hW5⟩ : ∃ W5 : World, W5 = w4.alloc (.cells #[.slice none 0 0, .int .i64 0] 24) := ⟨_, rfl⟩
  have HB5 : Hid (Below w.heap.size w W5) := by rw [hW5]; exact HB4.out.alloc HB4.out.size _
  have hU : Below w4.heap.size w4 W5 := by rw [hW5]; exact (Below.refl _ _).alloc (Nat.le_refl _) _
  have hs5 : w4.heap.size < W5.heap.size := by rw [hW5]; simp
  have hp5 : pb < W5.heap.size := by omega
  have u0 := (hU.cell (p := ⟨pb, 0, none⟩) hs4).trans q0
  have u1 := (hU.cell (p := ⟨pb, 1, none⟩) hs4).trans q1
  have v0 : W5.cell? ⟨w4.heap.size, 0, none⟩ = some (.slice none 0 0) := by rw [hW5]; simp
  have v1 : W5.cell? ⟨w4.heap.size, 1, none⟩ = some (.int .i64 0) := by rw [hW5]; simp
  have HW5 := hid hW5
  clear hW5 hU q0 q1 hs4 HB4
  go_wp2_with fail
  rw [← HW5.out]
  clear HW5
  go_loopw [10] (fun u wr => u = .int .i64 0 ∧ wr = W5) (fun _ _ => 0)
  case atStart => exact ⟨rfl, rfl⟩
  case round =>
    obtain ⟨rfl, rfl⟩ := hrel
    go_wp2_with fail
    refine (HB.out _).mono ?_
    rintro e w6 ⟨rfl, hb6⟩
    have a0 := (hb6.cell (p := ⟨pb, 0, none⟩) hp5).trans u0
    have a1 := (hb6.cell (p := ⟨pb, 1, none⟩) hp5).trans u1
    have b0 := (hb6.cell (p := ⟨w4.heap.size, 0, none⟩) hs5).trans v0
    have b1 := (hb6.cell (p := ⟨w4.heap.size, 1, none⟩) hs5).trans v1
    have HB6 := hid (HB5.out.trans (hb6.mono HB5.out.size))
    clear hb6 u0 u1 v0 v1 HB5
    generalize w4.heap.size = zb at *
    go_wp2_with (go_at_call 11; refine (HS.out _).mono ?_; rintro e w7 ⟨rfl, hb7⟩; have HB7 := hid (HB6.out.trans (hb7.mono HB6.out.size)); clear hb7)
    go_ret
    exact ⟨rfl, HB7.out⟩

end Go.Proofs.Ytpahhhhfhnpmjaa
