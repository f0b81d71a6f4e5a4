/-
  The reference's truth and Math: the same reckoning.
-/
import Derived.Test.YtljdoholcdhkhaaGs
namespace Go.Proofs.Ytljdoholcdhkhaa
open Go.RowKit Go.Shelf
set_option maxRecDepth 100000

theorem gtruth_any (b : Bool) (w : World) :
    Calls Try.prog 28 #[.bool b] w fun en w' => en = .returned (.int .i64 (Mc.truth b)) ∧ w' = w := by
  cases b
  all_goals
    go_enter Try.func28, Try.ntmps28
    go_wp2_with fail
    go_ret
    exact ⟨rfl, rfl⟩

set_option maxHeartbeats 800000 in
theorem gmath_any (op a b : Int) (w : World) (ho : Mc.isOp op = true) :
    Calls Try.prog 29 #[.int .i64 op, .int .i64 a, .int .i64 b] w fun en w' => en = .returned (reckV (Mc.reck op a b)) ∧ w' = w := by
  have hop : op = 9 ∨ op = 10 ∨ op = 11 ∨ op = 12 ∨ op = 13 ∨ op = 14 ∨ op = 15 := by
    simp only [Mc.isOp, Bool.and_eq_true, decide_eq_true_eq] at ho
    omega
  clear ho
  rcases hop with rfl | rfl | rfl | rfl | rfl | rfl | rfl
  · go_enter Try.func29, Try.ntmps29
    go_wp2_with fail
    go_ret2
    exact ⟨rfl, rfl⟩
  · go_enter Try.func29, Try.ntmps29
    go_wp2_with fail
    go_ret2
    exact ⟨rfl, rfl⟩
  · go_enter Try.func29, Try.ntmps29
    go_wp2_with fail
    go_ret2
    exact ⟨rfl, rfl⟩
  · by_cases hb : b = 0
    · subst hb
      go_enter Try.func29, Try.ntmps29
      go_wp2_with fail
      go_ret2
      exact ⟨rfl, rfl⟩
    · have HP : Hid (Mc.reck 12 a b = some (wrap64 (a.tdiv b))) := by
        show Mc.reck 12 a b = _
        simp [Mc.reck, hb]
      have hb' : (b == 0) = false := beq_eq_false_iff_ne.2 hb
      go_enter Try.func29, Try.ntmps29
      go_wp2_with fail
      go_ret2
      exact ⟨by rw [HP.out]; rfl, rfl⟩
  · by_cases hb : b = 0
    · subst hb
      go_enter Try.func29, Try.ntmps29
      go_wp2_with fail
      go_ret2
      exact ⟨rfl, rfl⟩
    · have HP : Hid (Mc.reck 13 a b = some (a.tmod b)) := by
        show Mc.reck 13 a b = _
        simp [Mc.reck, hb]
      have hb' : (b == 0) = false := beq_eq_false_iff_ne.2 hb
      go_enter Try.func29, Try.ntmps29
      go_wp2_with fail
      go_ret2
      exact ⟨by rw [HP.out]; rfl, rfl⟩
  · go_enter Try.func29, Try.ntmps29
    go_wp2_with (go_at_call 28; refine (gtruth_any _ _).mono ?_; rintro e w' ⟨rfl, rfl⟩)
    go_ret2
    exact ⟨rfl, rfl⟩
  · go_enter Try.func29, Try.ntmps29
    go_wp2_with (go_at_call 28; refine (gtruth_any _ _).mono ?_; rintro e w' ⟨rfl, rfl⟩)
    go_ret2
    exact ⟨rfl, rfl⟩

end Go.Proofs.Ytljdoholcdhkhaa
