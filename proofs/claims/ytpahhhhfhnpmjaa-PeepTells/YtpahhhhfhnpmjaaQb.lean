/-
  What never ends a run; marks: the closure that marks.
-/
import Derived.Test.YtpahhhhfhnpmjaaQa
namespace Go.Proofs.Ytpahhhhfhnpmjaa
open Go.RowKit Go.Shelf
set_option maxRecDepth 100000

theorem folds_isOp (op : Int) : Mc.foldsB op = (Mc.isOp op && !decide (op = 12) && !decide (op = 13)) := by
  unfold Mc.foldsB Mc.isOp
  rw [Bool.eq_iff_iff]
  simp only [Bool.or_eq_true, Bool.and_eq_true, decide_eq_true_eq, Bool.not_eq_true', decide_eq_false_iff_not]
  omega
theorem never_any (op : Int) (w : World) : Calls Try.prog 33 #[.int .i64 op] w fun e w' => e = .returned (.bool (Mc.foldsB op)) ∧ w' = w := by
  have HI : Hid (∀ W, Calls Try.prog 42 #[.int .i64 op] W fun en w' => en = .returned (.bool (Mc.isOp op)) ∧ w' = W) := isOp_any op
  rw [folds_isOp]
  cases hi : Mc.isOp op with
  | false =>
    rw [hi] at HI
    clear hi
    go_enter Try.func33, Try.ntmps33
    go_wp2_with (go_at_call 42; refine (HI.out _).mono ?_; rintro e w' ⟨rfl, rfl⟩)
    go_ret
    exact ⟨rfl, rfl⟩
  | true =>
    rw [hi] at HI
    clear hi
    by_cases h12 : op = 12
    · subst h12
      go_enter Try.func33, Try.ntmps33
      go_wp2_with (go_at_call 42; refine (HI.out _).mono ?_; rintro e w' ⟨rfl, rfl⟩)
      go_ret
      exact ⟨rfl, rfl⟩
    · have b12 : (op == 12) = false := beq_eq_false_iff_ne.2 h12
      by_cases h13 : op = 13
      · subst h13
        go_enter Try.func33, Try.ntmps33
        go_wp2_with (go_at_call 42; refine (HI.out _).mono ?_; rintro e w' ⟨rfl, rfl⟩)
        go_ret
        exact ⟨rfl, rfl⟩
      · have b13 : (op == 13) = false := beq_eq_false_iff_ne.2 h13
        have HE : Hid ((true && !decide (op = 12) && !decide (op = 13)) = true) := by show _ = true; simp [h12, h13]
        have HN : Hid ((op != 12 && op != 13) = true) := by show _ = true; simp [h12, h13]
        rw [HE.out]
        go_enter Try.func33, Try.ntmps33
        go_wp2_with (go_at_call 42; refine (HI.out _).mono ?_; rintro e w' ⟨rfl, rfl⟩)
        go_ret
        exact ⟨ret_bool HN.out, rfl⟩

set_option maxHeartbeats 800000 in
theorem mark_any (k : Int) (mb g : Nat) (l : List Bool) (w : World) (hc : w.cell? ⟨mb, 0, none⟩ = some (.slice (some ⟨g, 0, none⟩) l.length l.length)) (hb : BRow w g l) :
    Calls Try.prog 30 #[.int .i64 k, .pointer (some ⟨mb, 0, none⟩)] w fun e w' => e = .returned (.tuple #[]) ∧ BRow w' g (Mc.setM l k) ∧ w.grownBy w' (some g) := by
  by_cases h1 : 0 ≤ k
  · obtain ⟨j, rfl⟩ := Int.eq_ofNat_of_zero_le h1
    by_cases h2 : j < l.length
    · have x := hb.cell j h2
      have f := hb.fz j h2
      have HB := hid (hb.setM j h2)
      clear hb
      go_enter Try.func30, Try.ntmps30
      go_wp2_with fail
      go_returns
      exact ⟨rfl, HB.out, put_grown _ _ _⟩
    · have HE : Hid (Mc.setM l (j : Int) = l) := if_neg (by omega)
      have HB := hid hb
      rw [HE.out]
      clear hb
      go_enter Try.func30, Try.ntmps30
      go_wp2_with fail
      go_returns
      exact ⟨rfl, HB.out, grown_refl _ _⟩
  · have HE : Hid (Mc.setM l k = l) := if_neg (by omega)
    have HB := hid hb
    rw [HE.out]
    clear hb
    go_enter Try.func30, Try.ntmps30
    go_wp2_with fail
    go_returns
    exact ⟨rfl, HB.out, grown_refl _ _⟩

end Go.Proofs.Ytpahhhhfhnpmjaa
