/-
  MachRuns as a contract: where there is an error; and in whatever case.
-/
import Derived.Test.YtljdoholcdhkhaaHk
namespace Go.Proofs.Ytljdoholcdhkhaa
open Go.RowKit Go.Shelf
set_option maxRecDepth 100000

set_option maxHeartbeats 12800000 in
theorem MachRuns_no (a ia : Option Addr) (cap icap cl il : Nat) (d ticks steps n C U E : Int) (r : Ans) (w : World) (hr : r.en = 0 ∧ r.out = [] ∧ r.data = [] ∧ r.ticks = 0)
    (HF : Hid (steps ≤ 134217728 → ∀ W, Calls Try.prog 5 #[.int .i64 steps] W fun en w' => en = .returned (.int .i64 n) ∧ w' = W)) (hn : 134217728 < steps → n = steps)
    (HR : Hid (∀ W : World, Below w.heap.size w W → Calls Try.prog 6 #[.agg #[.slice a cl cap, .int .i64 d], .slice ia il icap, .int .i64 ticks, .int .i64 n] W fun e w' => ∃ oa oc da dc, e = .returned (.tuple #[.agg #[.int .i64 r.en, .slice oa r.out.length oc, .slice da r.data.length dc, .int .i64 r.ticks], .int .i64 0, .int .i64 E]) ∧ Below W.heap.size W w'))
    (HC : Hid (∀ W : World, Below w.heap.size w W → Calls Try.prog 11 #[.agg #[.slice a cl cap, .int .i64 d]] W fun e w' => e = .returned (.int .i64 C) ∧ Below W.heap.size W w'))
    (HD : Hid (∀ W : World, Below w.heap.size w W → Calls Try.prog 7 #[.agg #[.slice a cl cap, .int .i64 d]] W fun e w' => e = .returned (.int .i64 C) ∧ Below W.heap.size W w'))
    (HE : Hid (∀ W : World, Calls Try.prog 8 #[.slice ia il icap, .int .i64 ticks] W fun e w' => e = .returned (.int .i64 U) ∧ w' = W))
    (hcase : (C ≠ 0 ∧ E = C) ∨ (C = 0 ∧ U ≠ 0 ∧ E = U) ∨ (C = 0 ∧ U = 0 ∧ E = 3 ∧ (n < 0 ∨ 134217728 < n))) :
    Calls Try.prog 3 #[.agg #[.slice a cl cap, .int .i64 d], .slice ia il icap, .int .i64 ticks, .int .i64 steps] w fun e w' => e = .returned (.bool true) ∧ Below w.heap.size w w' := by
  have HB1 : Hid (Below w.heap.size w (w.alloc (.cells #[.slice a cl cap, .int .i64 d] 24))) := (Below.refl _ _).alloc (Nat.le_refl _) _
  have HRl : Hid (r.out.length ≤ 1000000000000000) := by rw [hr.2.1]; exact Nat.zero_le _
  have HRd : Hid (r.data.length ≤ 1000000000000000) := by rw [hr.2.2.1]; exact Nat.zero_le _
  have HZr := hid hr
  clear hr
  by_cases hst : steps ≤ 134217728
  · have HF := hid (HF.out hst)
    clear hn
    rcases hcase with ⟨hC, rfl⟩ | ⟨rfl, hU, rfl⟩ | ⟨rfl, rfl, rfl, hlow | hhigh⟩
    · have hCb : (E == 0) = false := beq_eq_false_iff_ne.2 hC
      clear hC
      go_enter Try.func3, Try.ntmps3
      go_wp2_with fail
      refine (HF.out _).mono ?_
      rintro e w1 ⟨rfl, h1⟩
      obtain rfl := h1.symm
      go_wp2_with fail
      refine (HR.out _ HB1.out).mono ?_
      rintro e w2 ⟨oa, oc, da, dc, rfl, hb2⟩
      have HB2 : Hid (Below w.heap.size w w2) := HB1.out.trans (hb2.mono HB1.out.size)
      have hz2 : w.heap.size < w2.heap.size := by have := hb2.size; simp at this; omega
      have hne2 : w.heap.size ≠ w2.heap.size := by omega
      have i0 : w2.cell? ⟨w.heap.size, 0, none⟩ = some (.slice a cl cap) := (hb2.cell (p := ⟨w.heap.size, 0, none⟩) (by simp)).trans (by simp)
      have i1 : w2.cell? ⟨w.heap.size, 1, none⟩ = some (.int .i64 d) := (hb2.cell (p := ⟨w.heap.size, 1, none⟩) (by simp)).trans (by simp)
      clear hb2 HR HF HB1
      go_wp2_with fail
      refine (HD.out _ (HB2.out.alloc HB2.out.size _)).mono ?_
      rintro e w3 ⟨rfl, hb3⟩
      have HB3 := hid hb3
      have hz3 : w2.heap.size + 1 ≤ w3.heap.size := by have := hb3.size; simpa using this
      have hbw3 : Below w.heap.size w w3 := (HB2.out.alloc HB2.out.size _).trans (hb3.mono (by have := HB2.out.size; simp; omega))
      have HBW3 := hid hbw3
      have j0 : w3.cell? ⟨w.heap.size, 0, none⟩ = some (.slice a cl cap) := (hb3.cell (p := ⟨w.heap.size, 0, none⟩) (by simp; omega)).trans ((((Below.refl _ _).alloc (Nat.le_refl _) _ : Below w2.heap.size w2 (w2.alloc (RBlk r oa da oc dc))).cell (p := ⟨w.heap.size, 0, none⟩) hz2).trans i0)
      have j1 : w3.cell? ⟨w.heap.size, 1, none⟩ = some (.int .i64 d) := (hb3.cell (p := ⟨w.heap.size, 1, none⟩) (by simp; omega)).trans ((((Below.refl _ _).alloc (Nat.le_refl _) _ : Below w2.heap.size w2 (w2.alloc (RBlk r oa da oc dc))).cell (p := ⟨w.heap.size, 1, none⟩) hz2).trans i1)
      have hz4 : w.heap.size < w3.heap.size := by omega
      have hne3 : w.heap.size ≠ w3.heap.size := by omega
      clear hb3 hbw3
      go_wp2_with fail
      have HY := hid (endF_mk0 HB2.out hz2 i0 i1 HB3.out HZr.out rfl)
      generalize w3.alloc (.cells #[.int .i64 0, .slice none 0 0, .slice none 0 0, .int .i64 0] 28) = W5 at *
      have HY5 := hid (HY.out.later (Below.refl _ _).drew)
      clear i0 i1 j0 j1 HB3 HB2 HBW3 HE
      have FF := hid (⟨HY5.out.i0, HY5.out.i1, HY5.out.t.r0, HY5.out.t.r1, HY5.out.t.r2, HY5.out.t.r3, HY5.out.t.q0, HY5.out.t.q1, HY5.out.t.q2, HY5.out.t.q3⟩ : _ ∧ _ ∧ _ ∧ _ ∧ _ ∧ _ ∧ _ ∧ _ ∧ _ ∧ _)
      go_region_held (fun W => W.cell? ⟨w.heap.size, 0, none⟩ = some (.slice a cl cap) ∧ W.cell? ⟨w.heap.size, 1, none⟩ = some (.int .i64 d) ∧ W.cell? ⟨w2.heap.size, 0, none⟩ = some (.int .i64 r.en) ∧ W.cell? ⟨w2.heap.size, 1, none⟩ = some (.slice oa r.out.length oc) ∧ W.cell? ⟨w2.heap.size, 2, none⟩ = some (.slice da r.data.length dc) ∧ W.cell? ⟨w2.heap.size, 3, none⟩ = some (.int .i64 r.ticks) ∧ W.cell? ⟨w3.heap.size, 0, none⟩ = some (.int .i64 r.en) ∧ W.cell? ⟨w3.heap.size, 1, none⟩ = some (.slice none r.out.length 0) ∧ W.cell? ⟨w3.heap.size, 2, none⟩ = some (.slice none r.data.length 0) ∧ W.cell? ⟨w3.heap.size, 3, none⟩ = some (.int .i64 r.ticks)) (exact FF.out)
        (first
        | (go_at_call 10; refine (machBegun_any _).mono ?_; rintro e w6 ⟨rfl, hb6⟩; have HY6 := hid (HY5.out.later hb6); have FF := hid (⟨HY6.out.i0, HY6.out.i1, HY6.out.t.r0, HY6.out.t.r1, HY6.out.t.r2, HY6.out.t.r3, HY6.out.t.q0, HY6.out.t.q1, HY6.out.t.q2, HY6.out.t.q3⟩ : _ ∧ _ ∧ _ ∧ _ ∧ _ ∧ _ ∧ _ ∧ _ ∧ _ ∧ _))
        | (go_at_call 11; refine (HC.out _ HY6.out.t.below).mono ?_; rintro e w7 ⟨rfl, hb7⟩; have HY7 := hid (HY6.out.later hb7); have FF := hid (⟨HY7.out.i0, HY7.out.i1, HY7.out.t.r0, HY7.out.t.r1, HY7.out.t.r2, HY7.out.t.r3, HY7.out.t.q0, HY7.out.t.q1, HY7.out.t.q2, HY7.out.t.q3⟩ : _ ∧ _ ∧ _ ∧ _ ∧ _ ∧ _ ∧ _ ∧ _ ∧ _ ∧ _))
        | (go_at_call 7; refine (HD.out _ HY7.out.t.below).mono ?_; rintro e w8 ⟨rfl, hb8⟩; have HY8 := hid (HY7.out.later hb8); have FF := hid (⟨HY8.out.i0, HY8.out.i1, HY8.out.t.r0, HY8.out.t.r1, HY8.out.t.r2, HY8.out.t.r3, HY8.out.t.q0, HY8.out.t.q1, HY8.out.t.q2, HY8.out.t.q3⟩ : _ ∧ _ ∧ _ ∧ _ ∧ _ ∧ _ ∧ _ ∧ _ ∧ _ ∧ _))
        | (go_at_call 12; refine (SameResults_same r.en r.ticks oa none da none oc 0 dc 0 r.out r.data _ HY8.out.t.nr HY8.out.t.nq HY8.out.t.nd HY8.out.t.ne HRl.out HRd.out).mono ?_; rintro e w9 ⟨rfl, hb9⟩; have HZ := hid (HY8.out.t.below.trans (hb9.mono HY8.out.t.below.size)); have HY9 := hid (HY8.out.later hb9); have FF := hid (⟨HY9.out.i0, HY9.out.i1, HY9.out.t.r0, HY9.out.t.r1, HY9.out.t.r2, HY9.out.t.r3, HY9.out.t.q0, HY9.out.t.q1, HY9.out.t.q2, HY9.out.t.q3⟩ : _ ∧ _ ∧ _ ∧ _ ∧ _ ∧ _ ∧ _ ∧ _ ∧ _ ∧ _)))
      all_goals
        go_wp2_with fail
        go_ret
        exact ⟨rfl, HZ.out⟩
    · have hUb : (E == 0) = false := beq_eq_false_iff_ne.2 hU
      clear hU
      go_enter Try.func3, Try.ntmps3
      go_wp2_with fail
      refine (HF.out _).mono ?_
      rintro e w1 ⟨rfl, h1⟩
      obtain rfl := h1.symm
      go_wp2_with fail
      refine (HR.out _ HB1.out).mono ?_
      rintro e w2 ⟨oa, oc, da, dc, rfl, hb2⟩
      have HB2 : Hid (Below w.heap.size w w2) := HB1.out.trans (hb2.mono HB1.out.size)
      have hz2 : w.heap.size < w2.heap.size := by have := hb2.size; simp at this; omega
      have hne2 : w.heap.size ≠ w2.heap.size := by omega
      have i0 : w2.cell? ⟨w.heap.size, 0, none⟩ = some (.slice a cl cap) := (hb2.cell (p := ⟨w.heap.size, 0, none⟩) (by simp)).trans (by simp)
      have i1 : w2.cell? ⟨w.heap.size, 1, none⟩ = some (.int .i64 d) := (hb2.cell (p := ⟨w.heap.size, 1, none⟩) (by simp)).trans (by simp)
      clear hb2 HR HF HB1
      go_wp2_with fail
      refine (HD.out _ (HB2.out.alloc HB2.out.size _)).mono ?_
      rintro e w3 ⟨rfl, hb3⟩
      have HB3 := hid hb3
      have hz3 : w2.heap.size + 1 ≤ w3.heap.size := by have := hb3.size; simpa using this
      have hbw3 : Below w.heap.size w w3 := (HB2.out.alloc HB2.out.size _).trans (hb3.mono (by have := HB2.out.size; simp; omega))
      have HBW3 := hid hbw3
      have j0 : w3.cell? ⟨w.heap.size, 0, none⟩ = some (.slice a cl cap) := (hb3.cell (p := ⟨w.heap.size, 0, none⟩) (by simp; omega)).trans ((((Below.refl _ _).alloc (Nat.le_refl _) _ : Below w2.heap.size w2 (w2.alloc (RBlk r oa da oc dc))).cell (p := ⟨w.heap.size, 0, none⟩) hz2).trans i0)
      have j1 : w3.cell? ⟨w.heap.size, 1, none⟩ = some (.int .i64 d) := (hb3.cell (p := ⟨w.heap.size, 1, none⟩) (by simp; omega)).trans ((((Below.refl _ _).alloc (Nat.le_refl _) _ : Below w2.heap.size w2 (w2.alloc (RBlk r oa da oc dc))).cell (p := ⟨w.heap.size, 1, none⟩) hz2).trans i1)
      have hz4 : w.heap.size < w3.heap.size := by omega
      have hne3 : w.heap.size ≠ w3.heap.size := by omega
      clear hb3 hbw3
      go_wp2_with fail
      refine (HE.out _).mono ?_
      rintro e w1 ⟨rfl, h1⟩
      obtain rfl := h1.symm
      go_wp2_with fail
      have HY := hid (endF_mk0 HB2.out hz2 i0 i1 HB3.out HZr.out rfl)
      generalize w3.alloc (.cells #[.int .i64 0, .slice none 0 0, .slice none 0 0, .int .i64 0] 28) = W5 at *
      have HY5 := hid (HY.out.later (Below.refl _ _).drew)
      clear i0 i1 j0 j1 HB3 HB2 HBW3 HE
      have FF := hid (⟨HY5.out.i0, HY5.out.i1, HY5.out.t.r0, HY5.out.t.r1, HY5.out.t.r2, HY5.out.t.r3, HY5.out.t.q0, HY5.out.t.q1, HY5.out.t.q2, HY5.out.t.q3⟩ : _ ∧ _ ∧ _ ∧ _ ∧ _ ∧ _ ∧ _ ∧ _ ∧ _ ∧ _)
      go_region_held (fun W => W.cell? ⟨w.heap.size, 0, none⟩ = some (.slice a cl cap) ∧ W.cell? ⟨w.heap.size, 1, none⟩ = some (.int .i64 d) ∧ W.cell? ⟨w2.heap.size, 0, none⟩ = some (.int .i64 r.en) ∧ W.cell? ⟨w2.heap.size, 1, none⟩ = some (.slice oa r.out.length oc) ∧ W.cell? ⟨w2.heap.size, 2, none⟩ = some (.slice da r.data.length dc) ∧ W.cell? ⟨w2.heap.size, 3, none⟩ = some (.int .i64 r.ticks) ∧ W.cell? ⟨w3.heap.size, 0, none⟩ = some (.int .i64 r.en) ∧ W.cell? ⟨w3.heap.size, 1, none⟩ = some (.slice none r.out.length 0) ∧ W.cell? ⟨w3.heap.size, 2, none⟩ = some (.slice none r.data.length 0) ∧ W.cell? ⟨w3.heap.size, 3, none⟩ = some (.int .i64 r.ticks)) (exact FF.out)
        (first
        | (go_at_call 10; refine (machBegun_any _).mono ?_; rintro e w6 ⟨rfl, hb6⟩; have HY6 := hid (HY5.out.later hb6); have FF := hid (⟨HY6.out.i0, HY6.out.i1, HY6.out.t.r0, HY6.out.t.r1, HY6.out.t.r2, HY6.out.t.r3, HY6.out.t.q0, HY6.out.t.q1, HY6.out.t.q2, HY6.out.t.q3⟩ : _ ∧ _ ∧ _ ∧ _ ∧ _ ∧ _ ∧ _ ∧ _ ∧ _ ∧ _))
        | (go_at_call 11; refine (HC.out _ HY6.out.t.below).mono ?_; rintro e w7 ⟨rfl, hb7⟩; have HY7 := hid (HY6.out.later hb7); have FF := hid (⟨HY7.out.i0, HY7.out.i1, HY7.out.t.r0, HY7.out.t.r1, HY7.out.t.r2, HY7.out.t.r3, HY7.out.t.q0, HY7.out.t.q1, HY7.out.t.q2, HY7.out.t.q3⟩ : _ ∧ _ ∧ _ ∧ _ ∧ _ ∧ _ ∧ _ ∧ _ ∧ _ ∧ _))
        | (go_at_call 7; refine (HD.out _ HY7.out.t.below).mono ?_; rintro e w8 ⟨rfl, hb8⟩; have HY8 := hid (HY7.out.later hb8); have FF := hid (⟨HY8.out.i0, HY8.out.i1, HY8.out.t.r0, HY8.out.t.r1, HY8.out.t.r2, HY8.out.t.r3, HY8.out.t.q0, HY8.out.t.q1, HY8.out.t.q2, HY8.out.t.q3⟩ : _ ∧ _ ∧ _ ∧ _ ∧ _ ∧ _ ∧ _ ∧ _ ∧ _ ∧ _))
        | (go_at_call 12; refine (SameResults_same r.en r.ticks oa none da none oc 0 dc 0 r.out r.data _ HY8.out.t.nr HY8.out.t.nq HY8.out.t.nd HY8.out.t.ne HRl.out HRd.out).mono ?_; rintro e w9 ⟨rfl, hb9⟩; have HZ := hid (HY8.out.t.below.trans (hb9.mono HY8.out.t.below.size)); have HY9 := hid (HY8.out.later hb9); have FF := hid (⟨HY9.out.i0, HY9.out.i1, HY9.out.t.r0, HY9.out.t.r1, HY9.out.t.r2, HY9.out.t.r3, HY9.out.t.q0, HY9.out.t.q1, HY9.out.t.q2, HY9.out.t.q3⟩ : _ ∧ _ ∧ _ ∧ _ ∧ _ ∧ _ ∧ _ ∧ _ ∧ _ ∧ _)))
      all_goals
        go_wp2_with fail
        go_ret
        exact ⟨rfl, HZ.out⟩
    · skip
      go_enter Try.func3, Try.ntmps3
      go_wp2_with fail
      refine (HF.out _).mono ?_
      rintro e w1 ⟨rfl, h1⟩
      obtain rfl := h1.symm
      go_wp2_with fail
      refine (HR.out _ HB1.out).mono ?_
      rintro e w2 ⟨oa, oc, da, dc, rfl, hb2⟩
      have HB2 : Hid (Below w.heap.size w w2) := HB1.out.trans (hb2.mono HB1.out.size)
      have hz2 : w.heap.size < w2.heap.size := by have := hb2.size; simp at this; omega
      have hne2 : w.heap.size ≠ w2.heap.size := by omega
      have i0 : w2.cell? ⟨w.heap.size, 0, none⟩ = some (.slice a cl cap) := (hb2.cell (p := ⟨w.heap.size, 0, none⟩) (by simp)).trans (by simp)
      have i1 : w2.cell? ⟨w.heap.size, 1, none⟩ = some (.int .i64 d) := (hb2.cell (p := ⟨w.heap.size, 1, none⟩) (by simp)).trans (by simp)
      clear hb2 HR HF HB1
      go_wp2_with fail
      refine (HD.out _ (HB2.out.alloc HB2.out.size _)).mono ?_
      rintro e w3 ⟨rfl, hb3⟩
      have HB3 := hid hb3
      have hz3 : w2.heap.size + 1 ≤ w3.heap.size := by have := hb3.size; simpa using this
      have hbw3 : Below w.heap.size w w3 := (HB2.out.alloc HB2.out.size _).trans (hb3.mono (by have := HB2.out.size; simp; omega))
      have HBW3 := hid hbw3
      have j0 : w3.cell? ⟨w.heap.size, 0, none⟩ = some (.slice a cl cap) := (hb3.cell (p := ⟨w.heap.size, 0, none⟩) (by simp; omega)).trans ((((Below.refl _ _).alloc (Nat.le_refl _) _ : Below w2.heap.size w2 (w2.alloc (RBlk r oa da oc dc))).cell (p := ⟨w.heap.size, 0, none⟩) hz2).trans i0)
      have j1 : w3.cell? ⟨w.heap.size, 1, none⟩ = some (.int .i64 d) := (hb3.cell (p := ⟨w.heap.size, 1, none⟩) (by simp; omega)).trans ((((Below.refl _ _).alloc (Nat.le_refl _) _ : Below w2.heap.size w2 (w2.alloc (RBlk r oa da oc dc))).cell (p := ⟨w.heap.size, 1, none⟩) hz2).trans i1)
      have hz4 : w.heap.size < w3.heap.size := by omega
      have hne3 : w.heap.size ≠ w3.heap.size := by omega
      clear hb3 hbw3
      go_wp2_with fail
      refine (HE.out _).mono ?_
      rintro e w1 ⟨rfl, h1⟩
      obtain rfl := h1.symm
      go_wp2_with fail
      have HY := hid (endF_mk0 HB2.out hz2 i0 i1 HB3.out HZr.out rfl)
      generalize w3.alloc (.cells #[.int .i64 0, .slice none 0 0, .slice none 0 0, .int .i64 0] 28) = W5 at *
      have HY5 := hid (HY.out.later (Below.refl _ _).drew)
      clear i0 i1 j0 j1 HB3 HB2 HBW3 HE
      have FF := hid (⟨HY5.out.i0, HY5.out.i1, HY5.out.t.r0, HY5.out.t.r1, HY5.out.t.r2, HY5.out.t.r3, HY5.out.t.q0, HY5.out.t.q1, HY5.out.t.q2, HY5.out.t.q3⟩ : _ ∧ _ ∧ _ ∧ _ ∧ _ ∧ _ ∧ _ ∧ _ ∧ _ ∧ _)
      go_region_held (fun W => W.cell? ⟨w.heap.size, 0, none⟩ = some (.slice a cl cap) ∧ W.cell? ⟨w.heap.size, 1, none⟩ = some (.int .i64 d) ∧ W.cell? ⟨w2.heap.size, 0, none⟩ = some (.int .i64 r.en) ∧ W.cell? ⟨w2.heap.size, 1, none⟩ = some (.slice oa r.out.length oc) ∧ W.cell? ⟨w2.heap.size, 2, none⟩ = some (.slice da r.data.length dc) ∧ W.cell? ⟨w2.heap.size, 3, none⟩ = some (.int .i64 r.ticks) ∧ W.cell? ⟨w3.heap.size, 0, none⟩ = some (.int .i64 r.en) ∧ W.cell? ⟨w3.heap.size, 1, none⟩ = some (.slice none r.out.length 0) ∧ W.cell? ⟨w3.heap.size, 2, none⟩ = some (.slice none r.data.length 0) ∧ W.cell? ⟨w3.heap.size, 3, none⟩ = some (.int .i64 r.ticks)) (exact FF.out)
        (first
        | (go_at_call 10; refine (machBegun_any _).mono ?_; rintro e w6 ⟨rfl, hb6⟩; have HY6 := hid (HY5.out.later hb6); have FF := hid (⟨HY6.out.i0, HY6.out.i1, HY6.out.t.r0, HY6.out.t.r1, HY6.out.t.r2, HY6.out.t.r3, HY6.out.t.q0, HY6.out.t.q1, HY6.out.t.q2, HY6.out.t.q3⟩ : _ ∧ _ ∧ _ ∧ _ ∧ _ ∧ _ ∧ _ ∧ _ ∧ _ ∧ _))
        | (go_at_call 11; refine (HC.out _ HY6.out.t.below).mono ?_; rintro e w7 ⟨rfl, hb7⟩; have HY7 := hid (HY6.out.later hb7); have FF := hid (⟨HY7.out.i0, HY7.out.i1, HY7.out.t.r0, HY7.out.t.r1, HY7.out.t.r2, HY7.out.t.r3, HY7.out.t.q0, HY7.out.t.q1, HY7.out.t.q2, HY7.out.t.q3⟩ : _ ∧ _ ∧ _ ∧ _ ∧ _ ∧ _ ∧ _ ∧ _ ∧ _ ∧ _))
        | (go_at_call 7; refine (HD.out _ HY7.out.t.below).mono ?_; rintro e w8 ⟨rfl, hb8⟩; have HY8 := hid (HY7.out.later hb8); have FF := hid (⟨HY8.out.i0, HY8.out.i1, HY8.out.t.r0, HY8.out.t.r1, HY8.out.t.r2, HY8.out.t.r3, HY8.out.t.q0, HY8.out.t.q1, HY8.out.t.q2, HY8.out.t.q3⟩ : _ ∧ _ ∧ _ ∧ _ ∧ _ ∧ _ ∧ _ ∧ _ ∧ _ ∧ _))
        | (go_at_call 12; refine (SameResults_same r.en r.ticks oa none da none oc 0 dc 0 r.out r.data _ HY8.out.t.nr HY8.out.t.nq HY8.out.t.nd HY8.out.t.ne HRl.out HRd.out).mono ?_; rintro e w9 ⟨rfl, hb9⟩; have HZ := hid (HY8.out.t.below.trans (hb9.mono HY8.out.t.below.size)); have HY9 := hid (HY8.out.later hb9); have FF := hid (⟨HY9.out.i0, HY9.out.i1, HY9.out.t.r0, HY9.out.t.r1, HY9.out.t.r2, HY9.out.t.r3, HY9.out.t.q0, HY9.out.t.q1, HY9.out.t.q2, HY9.out.t.q3⟩ : _ ∧ _ ∧ _ ∧ _ ∧ _ ∧ _ ∧ _ ∧ _ ∧ _ ∧ _)))
      all_goals
        go_wp2_with fail
        go_ret
        exact ⟨rfl, HZ.out⟩
    · have h0n : 0 ≤ n := by omega
      go_enter Try.func3, Try.ntmps3
      go_wp2_with fail
      refine (HF.out _).mono ?_
      rintro e w1 ⟨rfl, h1⟩
      obtain rfl := h1.symm
      go_wp2_with fail
      refine (HR.out _ HB1.out).mono ?_
      rintro e w2 ⟨oa, oc, da, dc, rfl, hb2⟩
      have HB2 : Hid (Below w.heap.size w w2) := HB1.out.trans (hb2.mono HB1.out.size)
      have hz2 : w.heap.size < w2.heap.size := by have := hb2.size; simp at this; omega
      have hne2 : w.heap.size ≠ w2.heap.size := by omega
      have i0 : w2.cell? ⟨w.heap.size, 0, none⟩ = some (.slice a cl cap) := (hb2.cell (p := ⟨w.heap.size, 0, none⟩) (by simp)).trans (by simp)
      have i1 : w2.cell? ⟨w.heap.size, 1, none⟩ = some (.int .i64 d) := (hb2.cell (p := ⟨w.heap.size, 1, none⟩) (by simp)).trans (by simp)
      clear hb2 HR HF HB1
      go_wp2_with fail
      refine (HD.out _ (HB2.out.alloc HB2.out.size _)).mono ?_
      rintro e w3 ⟨rfl, hb3⟩
      have HB3 := hid hb3
      have hz3 : w2.heap.size + 1 ≤ w3.heap.size := by have := hb3.size; simpa using this
      have hbw3 : Below w.heap.size w w3 := (HB2.out.alloc HB2.out.size _).trans (hb3.mono (by have := HB2.out.size; simp; omega))
      have HBW3 := hid hbw3
      have j0 : w3.cell? ⟨w.heap.size, 0, none⟩ = some (.slice a cl cap) := (hb3.cell (p := ⟨w.heap.size, 0, none⟩) (by simp; omega)).trans ((((Below.refl _ _).alloc (Nat.le_refl _) _ : Below w2.heap.size w2 (w2.alloc (RBlk r oa da oc dc))).cell (p := ⟨w.heap.size, 0, none⟩) hz2).trans i0)
      have j1 : w3.cell? ⟨w.heap.size, 1, none⟩ = some (.int .i64 d) := (hb3.cell (p := ⟨w.heap.size, 1, none⟩) (by simp; omega)).trans ((((Below.refl _ _).alloc (Nat.le_refl _) _ : Below w2.heap.size w2 (w2.alloc (RBlk r oa da oc dc))).cell (p := ⟨w.heap.size, 1, none⟩) hz2).trans i1)
      have hz4 : w.heap.size < w3.heap.size := by omega
      have hne3 : w.heap.size ≠ w3.heap.size := by omega
      clear hb3 hbw3
      go_wp2_with fail
      refine (HE.out _).mono ?_
      rintro e w1 ⟨rfl, h1⟩
      obtain rfl := h1.symm
      go_wp2_with fail
      have HY := hid (endF_mk0 HB2.out hz2 i0 i1 HB3.out HZr.out rfl)
      generalize w3.alloc (.cells #[.int .i64 0, .slice none 0 0, .slice none 0 0, .int .i64 0] 28) = W5 at *
      have HY5 := hid (HY.out.later (Below.refl _ _).drew)
      clear i0 i1 j0 j1 HB3 HB2 HBW3 HE
      have FF := hid (⟨HY5.out.i0, HY5.out.i1, HY5.out.t.r0, HY5.out.t.r1, HY5.out.t.r2, HY5.out.t.r3, HY5.out.t.q0, HY5.out.t.q1, HY5.out.t.q2, HY5.out.t.q3⟩ : _ ∧ _ ∧ _ ∧ _ ∧ _ ∧ _ ∧ _ ∧ _ ∧ _ ∧ _)
      go_region_held (fun W => W.cell? ⟨w.heap.size, 0, none⟩ = some (.slice a cl cap) ∧ W.cell? ⟨w.heap.size, 1, none⟩ = some (.int .i64 d) ∧ W.cell? ⟨w2.heap.size, 0, none⟩ = some (.int .i64 r.en) ∧ W.cell? ⟨w2.heap.size, 1, none⟩ = some (.slice oa r.out.length oc) ∧ W.cell? ⟨w2.heap.size, 2, none⟩ = some (.slice da r.data.length dc) ∧ W.cell? ⟨w2.heap.size, 3, none⟩ = some (.int .i64 r.ticks) ∧ W.cell? ⟨w3.heap.size, 0, none⟩ = some (.int .i64 r.en) ∧ W.cell? ⟨w3.heap.size, 1, none⟩ = some (.slice none r.out.length 0) ∧ W.cell? ⟨w3.heap.size, 2, none⟩ = some (.slice none r.data.length 0) ∧ W.cell? ⟨w3.heap.size, 3, none⟩ = some (.int .i64 r.ticks)) (exact FF.out)
        (first
        | (go_at_call 10; refine (machBegun_any _).mono ?_; rintro e w6 ⟨rfl, hb6⟩; have HY6 := hid (HY5.out.later hb6); have FF := hid (⟨HY6.out.i0, HY6.out.i1, HY6.out.t.r0, HY6.out.t.r1, HY6.out.t.r2, HY6.out.t.r3, HY6.out.t.q0, HY6.out.t.q1, HY6.out.t.q2, HY6.out.t.q3⟩ : _ ∧ _ ∧ _ ∧ _ ∧ _ ∧ _ ∧ _ ∧ _ ∧ _ ∧ _))
        | (go_at_call 11; refine (HC.out _ HY6.out.t.below).mono ?_; rintro e w7 ⟨rfl, hb7⟩; have HY7 := hid (HY6.out.later hb7); have FF := hid (⟨HY7.out.i0, HY7.out.i1, HY7.out.t.r0, HY7.out.t.r1, HY7.out.t.r2, HY7.out.t.r3, HY7.out.t.q0, HY7.out.t.q1, HY7.out.t.q2, HY7.out.t.q3⟩ : _ ∧ _ ∧ _ ∧ _ ∧ _ ∧ _ ∧ _ ∧ _ ∧ _ ∧ _))
        | (go_at_call 7; refine (HD.out _ HY7.out.t.below).mono ?_; rintro e w8 ⟨rfl, hb8⟩; have HY8 := hid (HY7.out.later hb8); have FF := hid (⟨HY8.out.i0, HY8.out.i1, HY8.out.t.r0, HY8.out.t.r1, HY8.out.t.r2, HY8.out.t.r3, HY8.out.t.q0, HY8.out.t.q1, HY8.out.t.q2, HY8.out.t.q3⟩ : _ ∧ _ ∧ _ ∧ _ ∧ _ ∧ _ ∧ _ ∧ _ ∧ _ ∧ _))
        | (go_at_call 12; refine (SameResults_same r.en r.ticks oa none da none oc 0 dc 0 r.out r.data _ HY8.out.t.nr HY8.out.t.nq HY8.out.t.nd HY8.out.t.ne HRl.out HRd.out).mono ?_; rintro e w9 ⟨rfl, hb9⟩; have HZ := hid (HY8.out.t.below.trans (hb9.mono HY8.out.t.below.size)); have HY9 := hid (HY8.out.later hb9); have FF := hid (⟨HY9.out.i0, HY9.out.i1, HY9.out.t.r0, HY9.out.t.r1, HY9.out.t.r2, HY9.out.t.r3, HY9.out.t.q0, HY9.out.t.q1, HY9.out.t.q2, HY9.out.t.q3⟩ : _ ∧ _ ∧ _ ∧ _ ∧ _ ∧ _ ∧ _ ∧ _ ∧ _ ∧ _)))
      all_goals
        go_wp2_with fail
        go_ret
        exact ⟨rfl, HZ.out⟩
  · have hn' := hn (by omega)
    have hst' : 134217728 < steps := by omega
    subst hn'
    clear hn hst HF
    rcases hcase with ⟨hC, rfl⟩ | ⟨rfl, hU, rfl⟩ | ⟨rfl, rfl, rfl, -⟩
    · have hCb : (E == 0) = false := beq_eq_false_iff_ne.2 hC
      clear hC
      go_enter Try.func3, Try.ntmps3
      go_wp2_with fail
      refine (HR.out _ HB1.out).mono ?_
      rintro e w2 ⟨oa, oc, da, dc, rfl, hb2⟩
      have HB2 : Hid (Below w.heap.size w w2) := HB1.out.trans (hb2.mono HB1.out.size)
      have hz2 : w.heap.size < w2.heap.size := by have := hb2.size; simp at this; omega
      have hne2 : w.heap.size ≠ w2.heap.size := by omega
      have i0 : w2.cell? ⟨w.heap.size, 0, none⟩ = some (.slice a cl cap) := (hb2.cell (p := ⟨w.heap.size, 0, none⟩) (by simp)).trans (by simp)
      have i1 : w2.cell? ⟨w.heap.size, 1, none⟩ = some (.int .i64 d) := (hb2.cell (p := ⟨w.heap.size, 1, none⟩) (by simp)).trans (by simp)
      clear hb2 HR HB1
      go_wp2_with fail
      refine (HD.out _ (HB2.out.alloc HB2.out.size _)).mono ?_
      rintro e w3 ⟨rfl, hb3⟩
      have HB3 := hid hb3
      have hz3 : w2.heap.size + 1 ≤ w3.heap.size := by have := hb3.size; simpa using this
      have hbw3 : Below w.heap.size w w3 := (HB2.out.alloc HB2.out.size _).trans (hb3.mono (by have := HB2.out.size; simp; omega))
      have HBW3 := hid hbw3
      have j0 : w3.cell? ⟨w.heap.size, 0, none⟩ = some (.slice a cl cap) := (hb3.cell (p := ⟨w.heap.size, 0, none⟩) (by simp; omega)).trans ((((Below.refl _ _).alloc (Nat.le_refl _) _ : Below w2.heap.size w2 (w2.alloc (RBlk r oa da oc dc))).cell (p := ⟨w.heap.size, 0, none⟩) hz2).trans i0)
      have j1 : w3.cell? ⟨w.heap.size, 1, none⟩ = some (.int .i64 d) := (hb3.cell (p := ⟨w.heap.size, 1, none⟩) (by simp; omega)).trans ((((Below.refl _ _).alloc (Nat.le_refl _) _ : Below w2.heap.size w2 (w2.alloc (RBlk r oa da oc dc))).cell (p := ⟨w.heap.size, 1, none⟩) hz2).trans i1)
      have hz4 : w.heap.size < w3.heap.size := by omega
      have hne3 : w.heap.size ≠ w3.heap.size := by omega
      clear hb3 hbw3
      go_wp2_with fail
      have HY := hid (endF_mk0 HB2.out hz2 i0 i1 HB3.out HZr.out rfl)
      generalize w3.alloc (.cells #[.int .i64 0, .slice none 0 0, .slice none 0 0, .int .i64 0] 28) = W5 at *
      have HY5 := hid (HY.out.later (Below.refl _ _).drew)
      clear i0 i1 j0 j1 HB3 HB2 HBW3 HE
      have FF := hid (⟨HY5.out.i0, HY5.out.i1, HY5.out.t.r0, HY5.out.t.r1, HY5.out.t.r2, HY5.out.t.r3, HY5.out.t.q0, HY5.out.t.q1, HY5.out.t.q2, HY5.out.t.q3⟩ : _ ∧ _ ∧ _ ∧ _ ∧ _ ∧ _ ∧ _ ∧ _ ∧ _ ∧ _)
      go_region_held (fun W => W.cell? ⟨w.heap.size, 0, none⟩ = some (.slice a cl cap) ∧ W.cell? ⟨w.heap.size, 1, none⟩ = some (.int .i64 d) ∧ W.cell? ⟨w2.heap.size, 0, none⟩ = some (.int .i64 r.en) ∧ W.cell? ⟨w2.heap.size, 1, none⟩ = some (.slice oa r.out.length oc) ∧ W.cell? ⟨w2.heap.size, 2, none⟩ = some (.slice da r.data.length dc) ∧ W.cell? ⟨w2.heap.size, 3, none⟩ = some (.int .i64 r.ticks) ∧ W.cell? ⟨w3.heap.size, 0, none⟩ = some (.int .i64 r.en) ∧ W.cell? ⟨w3.heap.size, 1, none⟩ = some (.slice none r.out.length 0) ∧ W.cell? ⟨w3.heap.size, 2, none⟩ = some (.slice none r.data.length 0) ∧ W.cell? ⟨w3.heap.size, 3, none⟩ = some (.int .i64 r.ticks)) (exact FF.out)
        (first
        | (go_at_call 10; refine (machBegun_any _).mono ?_; rintro e w6 ⟨rfl, hb6⟩; have HY6 := hid (HY5.out.later hb6); have FF := hid (⟨HY6.out.i0, HY6.out.i1, HY6.out.t.r0, HY6.out.t.r1, HY6.out.t.r2, HY6.out.t.r3, HY6.out.t.q0, HY6.out.t.q1, HY6.out.t.q2, HY6.out.t.q3⟩ : _ ∧ _ ∧ _ ∧ _ ∧ _ ∧ _ ∧ _ ∧ _ ∧ _ ∧ _))
        | (go_at_call 11; refine (HC.out _ HY6.out.t.below).mono ?_; rintro e w7 ⟨rfl, hb7⟩; have HY7 := hid (HY6.out.later hb7); have FF := hid (⟨HY7.out.i0, HY7.out.i1, HY7.out.t.r0, HY7.out.t.r1, HY7.out.t.r2, HY7.out.t.r3, HY7.out.t.q0, HY7.out.t.q1, HY7.out.t.q2, HY7.out.t.q3⟩ : _ ∧ _ ∧ _ ∧ _ ∧ _ ∧ _ ∧ _ ∧ _ ∧ _ ∧ _))
        | (go_at_call 7; refine (HD.out _ HY7.out.t.below).mono ?_; rintro e w8 ⟨rfl, hb8⟩; have HY8 := hid (HY7.out.later hb8); have FF := hid (⟨HY8.out.i0, HY8.out.i1, HY8.out.t.r0, HY8.out.t.r1, HY8.out.t.r2, HY8.out.t.r3, HY8.out.t.q0, HY8.out.t.q1, HY8.out.t.q2, HY8.out.t.q3⟩ : _ ∧ _ ∧ _ ∧ _ ∧ _ ∧ _ ∧ _ ∧ _ ∧ _ ∧ _))
        | (go_at_call 12; refine (SameResults_same r.en r.ticks oa none da none oc 0 dc 0 r.out r.data _ HY8.out.t.nr HY8.out.t.nq HY8.out.t.nd HY8.out.t.ne HRl.out HRd.out).mono ?_; rintro e w9 ⟨rfl, hb9⟩; have HZ := hid (HY8.out.t.below.trans (hb9.mono HY8.out.t.below.size)); have HY9 := hid (HY8.out.later hb9); have FF := hid (⟨HY9.out.i0, HY9.out.i1, HY9.out.t.r0, HY9.out.t.r1, HY9.out.t.r2, HY9.out.t.r3, HY9.out.t.q0, HY9.out.t.q1, HY9.out.t.q2, HY9.out.t.q3⟩ : _ ∧ _ ∧ _ ∧ _ ∧ _ ∧ _ ∧ _ ∧ _ ∧ _ ∧ _)))
      all_goals
        go_wp2_with fail
        go_ret
        exact ⟨rfl, HZ.out⟩
    · have hUb : (E == 0) = false := beq_eq_false_iff_ne.2 hU
      clear hU
      go_enter Try.func3, Try.ntmps3
      go_wp2_with fail
      refine (HR.out _ HB1.out).mono ?_
      rintro e w2 ⟨oa, oc, da, dc, rfl, hb2⟩
      have HB2 : Hid (Below w.heap.size w w2) := HB1.out.trans (hb2.mono HB1.out.size)
      have hz2 : w.heap.size < w2.heap.size := by have := hb2.size; simp at this; omega
      have hne2 : w.heap.size ≠ w2.heap.size := by omega
      have i0 : w2.cell? ⟨w.heap.size, 0, none⟩ = some (.slice a cl cap) := (hb2.cell (p := ⟨w.heap.size, 0, none⟩) (by simp)).trans (by simp)
      have i1 : w2.cell? ⟨w.heap.size, 1, none⟩ = some (.int .i64 d) := (hb2.cell (p := ⟨w.heap.size, 1, none⟩) (by simp)).trans (by simp)
      clear hb2 HR HB1
      go_wp2_with fail
      refine (HD.out _ (HB2.out.alloc HB2.out.size _)).mono ?_
      rintro e w3 ⟨rfl, hb3⟩
      have HB3 := hid hb3
      have hz3 : w2.heap.size + 1 ≤ w3.heap.size := by have := hb3.size; simpa using this
      have hbw3 : Below w.heap.size w w3 := (HB2.out.alloc HB2.out.size _).trans (hb3.mono (by have := HB2.out.size; simp; omega))
      have HBW3 := hid hbw3
      have j0 : w3.cell? ⟨w.heap.size, 0, none⟩ = some (.slice a cl cap) := (hb3.cell (p := ⟨w.heap.size, 0, none⟩) (by simp; omega)).trans ((((Below.refl _ _).alloc (Nat.le_refl _) _ : Below w2.heap.size w2 (w2.alloc (RBlk r oa da oc dc))).cell (p := ⟨w.heap.size, 0, none⟩) hz2).trans i0)
      have j1 : w3.cell? ⟨w.heap.size, 1, none⟩ = some (.int .i64 d) := (hb3.cell (p := ⟨w.heap.size, 1, none⟩) (by simp; omega)).trans ((((Below.refl _ _).alloc (Nat.le_refl _) _ : Below w2.heap.size w2 (w2.alloc (RBlk r oa da oc dc))).cell (p := ⟨w.heap.size, 1, none⟩) hz2).trans i1)
      have hz4 : w.heap.size < w3.heap.size := by omega
      have hne3 : w.heap.size ≠ w3.heap.size := by omega
      clear hb3 hbw3
      go_wp2_with fail
      refine (HE.out _).mono ?_
      rintro e w1 ⟨rfl, h1⟩
      obtain rfl := h1.symm
      go_wp2_with fail
      have HY := hid (endF_mk0 HB2.out hz2 i0 i1 HB3.out HZr.out rfl)
      generalize w3.alloc (.cells #[.int .i64 0, .slice none 0 0, .slice none 0 0, .int .i64 0] 28) = W5 at *
      have HY5 := hid (HY.out.later (Below.refl _ _).drew)
      clear i0 i1 j0 j1 HB3 HB2 HBW3 HE
      have FF := hid (⟨HY5.out.i0, HY5.out.i1, HY5.out.t.r0, HY5.out.t.r1, HY5.out.t.r2, HY5.out.t.r3, HY5.out.t.q0, HY5.out.t.q1, HY5.out.t.q2, HY5.out.t.q3⟩ : _ ∧ _ ∧ _ ∧ _ ∧ _ ∧ _ ∧ _ ∧ _ ∧ _ ∧ _)
      go_region_held (fun W => W.cell? ⟨w.heap.size, 0, none⟩ = some (.slice a cl cap) ∧ W.cell? ⟨w.heap.size, 1, none⟩ = some (.int .i64 d) ∧ W.cell? ⟨w2.heap.size, 0, none⟩ = some (.int .i64 r.en) ∧ W.cell? ⟨w2.heap.size, 1, none⟩ = some (.slice oa r.out.length oc) ∧ W.cell? ⟨w2.heap.size, 2, none⟩ = some (.slice da r.data.length dc) ∧ W.cell? ⟨w2.heap.size, 3, none⟩ = some (.int .i64 r.ticks) ∧ W.cell? ⟨w3.heap.size, 0, none⟩ = some (.int .i64 r.en) ∧ W.cell? ⟨w3.heap.size, 1, none⟩ = some (.slice none r.out.length 0) ∧ W.cell? ⟨w3.heap.size, 2, none⟩ = some (.slice none r.data.length 0) ∧ W.cell? ⟨w3.heap.size, 3, none⟩ = some (.int .i64 r.ticks)) (exact FF.out)
        (first
        | (go_at_call 10; refine (machBegun_any _).mono ?_; rintro e w6 ⟨rfl, hb6⟩; have HY6 := hid (HY5.out.later hb6); have FF := hid (⟨HY6.out.i0, HY6.out.i1, HY6.out.t.r0, HY6.out.t.r1, HY6.out.t.r2, HY6.out.t.r3, HY6.out.t.q0, HY6.out.t.q1, HY6.out.t.q2, HY6.out.t.q3⟩ : _ ∧ _ ∧ _ ∧ _ ∧ _ ∧ _ ∧ _ ∧ _ ∧ _ ∧ _))
        | (go_at_call 11; refine (HC.out _ HY6.out.t.below).mono ?_; rintro e w7 ⟨rfl, hb7⟩; have HY7 := hid (HY6.out.later hb7); have FF := hid (⟨HY7.out.i0, HY7.out.i1, HY7.out.t.r0, HY7.out.t.r1, HY7.out.t.r2, HY7.out.t.r3, HY7.out.t.q0, HY7.out.t.q1, HY7.out.t.q2, HY7.out.t.q3⟩ : _ ∧ _ ∧ _ ∧ _ ∧ _ ∧ _ ∧ _ ∧ _ ∧ _ ∧ _))
        | (go_at_call 7; refine (HD.out _ HY7.out.t.below).mono ?_; rintro e w8 ⟨rfl, hb8⟩; have HY8 := hid (HY7.out.later hb8); have FF := hid (⟨HY8.out.i0, HY8.out.i1, HY8.out.t.r0, HY8.out.t.r1, HY8.out.t.r2, HY8.out.t.r3, HY8.out.t.q0, HY8.out.t.q1, HY8.out.t.q2, HY8.out.t.q3⟩ : _ ∧ _ ∧ _ ∧ _ ∧ _ ∧ _ ∧ _ ∧ _ ∧ _ ∧ _))
        | (go_at_call 12; refine (SameResults_same r.en r.ticks oa none da none oc 0 dc 0 r.out r.data _ HY8.out.t.nr HY8.out.t.nq HY8.out.t.nd HY8.out.t.ne HRl.out HRd.out).mono ?_; rintro e w9 ⟨rfl, hb9⟩; have HZ := hid (HY8.out.t.below.trans (hb9.mono HY8.out.t.below.size)); have HY9 := hid (HY8.out.later hb9); have FF := hid (⟨HY9.out.i0, HY9.out.i1, HY9.out.t.r0, HY9.out.t.r1, HY9.out.t.r2, HY9.out.t.r3, HY9.out.t.q0, HY9.out.t.q1, HY9.out.t.q2, HY9.out.t.q3⟩ : _ ∧ _ ∧ _ ∧ _ ∧ _ ∧ _ ∧ _ ∧ _ ∧ _ ∧ _)))
      all_goals
        go_wp2_with fail
        go_ret
        exact ⟨rfl, HZ.out⟩
    · have h0n : 0 ≤ n := by omega
      go_enter Try.func3, Try.ntmps3
      go_wp2_with fail
      refine (HR.out _ HB1.out).mono ?_
      rintro e w2 ⟨oa, oc, da, dc, rfl, hb2⟩
      have HB2 : Hid (Below w.heap.size w w2) := HB1.out.trans (hb2.mono HB1.out.size)
      have hz2 : w.heap.size < w2.heap.size := by have := hb2.size; simp at this; omega
      have hne2 : w.heap.size ≠ w2.heap.size := by omega
      have i0 : w2.cell? ⟨w.heap.size, 0, none⟩ = some (.slice a cl cap) := (hb2.cell (p := ⟨w.heap.size, 0, none⟩) (by simp)).trans (by simp)
      have i1 : w2.cell? ⟨w.heap.size, 1, none⟩ = some (.int .i64 d) := (hb2.cell (p := ⟨w.heap.size, 1, none⟩) (by simp)).trans (by simp)
      clear hb2 HR HB1
      go_wp2_with fail
      refine (HD.out _ (HB2.out.alloc HB2.out.size _)).mono ?_
      rintro e w3 ⟨rfl, hb3⟩
      have HB3 := hid hb3
      have hz3 : w2.heap.size + 1 ≤ w3.heap.size := by have := hb3.size; simpa using this
      have hbw3 : Below w.heap.size w w3 := (HB2.out.alloc HB2.out.size _).trans (hb3.mono (by have := HB2.out.size; simp; omega))
      have HBW3 := hid hbw3
      have j0 : w3.cell? ⟨w.heap.size, 0, none⟩ = some (.slice a cl cap) := (hb3.cell (p := ⟨w.heap.size, 0, none⟩) (by simp; omega)).trans ((((Below.refl _ _).alloc (Nat.le_refl _) _ : Below w2.heap.size w2 (w2.alloc (RBlk r oa da oc dc))).cell (p := ⟨w.heap.size, 0, none⟩) hz2).trans i0)
      have j1 : w3.cell? ⟨w.heap.size, 1, none⟩ = some (.int .i64 d) := (hb3.cell (p := ⟨w.heap.size, 1, none⟩) (by simp; omega)).trans ((((Below.refl _ _).alloc (Nat.le_refl _) _ : Below w2.heap.size w2 (w2.alloc (RBlk r oa da oc dc))).cell (p := ⟨w.heap.size, 1, none⟩) hz2).trans i1)
      have hz4 : w.heap.size < w3.heap.size := by omega
      have hne3 : w.heap.size ≠ w3.heap.size := by omega
      clear hb3 hbw3
      go_wp2_with fail
      refine (HE.out _).mono ?_
      rintro e w1 ⟨rfl, h1⟩
      obtain rfl := h1.symm
      go_wp2_with fail
      have HY := hid (endF_mk0 HB2.out hz2 i0 i1 HB3.out HZr.out rfl)
      generalize w3.alloc (.cells #[.int .i64 0, .slice none 0 0, .slice none 0 0, .int .i64 0] 28) = W5 at *
      have HY5 := hid (HY.out.later (Below.refl _ _).drew)
      clear i0 i1 j0 j1 HB3 HB2 HBW3 HE
      have FF := hid (⟨HY5.out.i0, HY5.out.i1, HY5.out.t.r0, HY5.out.t.r1, HY5.out.t.r2, HY5.out.t.r3, HY5.out.t.q0, HY5.out.t.q1, HY5.out.t.q2, HY5.out.t.q3⟩ : _ ∧ _ ∧ _ ∧ _ ∧ _ ∧ _ ∧ _ ∧ _ ∧ _ ∧ _)
      go_region_held (fun W => W.cell? ⟨w.heap.size, 0, none⟩ = some (.slice a cl cap) ∧ W.cell? ⟨w.heap.size, 1, none⟩ = some (.int .i64 d) ∧ W.cell? ⟨w2.heap.size, 0, none⟩ = some (.int .i64 r.en) ∧ W.cell? ⟨w2.heap.size, 1, none⟩ = some (.slice oa r.out.length oc) ∧ W.cell? ⟨w2.heap.size, 2, none⟩ = some (.slice da r.data.length dc) ∧ W.cell? ⟨w2.heap.size, 3, none⟩ = some (.int .i64 r.ticks) ∧ W.cell? ⟨w3.heap.size, 0, none⟩ = some (.int .i64 r.en) ∧ W.cell? ⟨w3.heap.size, 1, none⟩ = some (.slice none r.out.length 0) ∧ W.cell? ⟨w3.heap.size, 2, none⟩ = some (.slice none r.data.length 0) ∧ W.cell? ⟨w3.heap.size, 3, none⟩ = some (.int .i64 r.ticks)) (exact FF.out)
        (first
        | (go_at_call 10; refine (machBegun_any _).mono ?_; rintro e w6 ⟨rfl, hb6⟩; have HY6 := hid (HY5.out.later hb6); have FF := hid (⟨HY6.out.i0, HY6.out.i1, HY6.out.t.r0, HY6.out.t.r1, HY6.out.t.r2, HY6.out.t.r3, HY6.out.t.q0, HY6.out.t.q1, HY6.out.t.q2, HY6.out.t.q3⟩ : _ ∧ _ ∧ _ ∧ _ ∧ _ ∧ _ ∧ _ ∧ _ ∧ _ ∧ _))
        | (go_at_call 11; refine (HC.out _ HY6.out.t.below).mono ?_; rintro e w7 ⟨rfl, hb7⟩; have HY7 := hid (HY6.out.later hb7); have FF := hid (⟨HY7.out.i0, HY7.out.i1, HY7.out.t.r0, HY7.out.t.r1, HY7.out.t.r2, HY7.out.t.r3, HY7.out.t.q0, HY7.out.t.q1, HY7.out.t.q2, HY7.out.t.q3⟩ : _ ∧ _ ∧ _ ∧ _ ∧ _ ∧ _ ∧ _ ∧ _ ∧ _ ∧ _))
        | (go_at_call 7; refine (HD.out _ HY7.out.t.below).mono ?_; rintro e w8 ⟨rfl, hb8⟩; have HY8 := hid (HY7.out.later hb8); have FF := hid (⟨HY8.out.i0, HY8.out.i1, HY8.out.t.r0, HY8.out.t.r1, HY8.out.t.r2, HY8.out.t.r3, HY8.out.t.q0, HY8.out.t.q1, HY8.out.t.q2, HY8.out.t.q3⟩ : _ ∧ _ ∧ _ ∧ _ ∧ _ ∧ _ ∧ _ ∧ _ ∧ _ ∧ _))
        | (go_at_call 12; refine (SameResults_same r.en r.ticks oa none da none oc 0 dc 0 r.out r.data _ HY8.out.t.nr HY8.out.t.nq HY8.out.t.nd HY8.out.t.ne HRl.out HRd.out).mono ?_; rintro e w9 ⟨rfl, hb9⟩; have HZ := hid (HY8.out.t.below.trans (hb9.mono HY8.out.t.below.size)); have HY9 := hid (HY8.out.later hb9); have FF := hid (⟨HY9.out.i0, HY9.out.i1, HY9.out.t.r0, HY9.out.t.r1, HY9.out.t.r2, HY9.out.t.r3, HY9.out.t.q0, HY9.out.t.q1, HY9.out.t.q2, HY9.out.t.q3⟩ : _ ∧ _ ∧ _ ∧ _ ∧ _ ∧ _ ∧ _ ∧ _ ∧ _ ∧ _)))
      all_goals
        go_wp2_with fail
        go_ret
        exact ⟨rfl, HZ.out⟩

end Go.Proofs.Ytljdoholcdhkhaa
