/-
  The small functions of the program and of the document's answer that only look at bytes and numbers answer what the plain mathematics says, and change nothing.
-/
import Derived.Test.YtplkbngnnaogkaaProg
import Derived.Test.YtplkbngnnaogkaaPure
import Derived.WalkKit
import Derived.WalkSpells
import Derived.WalkLawsBesides
namespace Go.Proofs.Ytplkbngnnaogkaa
open Go.RowKit

theorem ret_bool {a b : Bool} (h : a = b) : Ending.returned (.bool a) = .returned (.bool b) := by rw [h]
theorem ret_int {k : IntKind} {a b : Int} (h : a = b) : Ending.returned (.int k a) = .returned (.int k b) := by rw [h]

theorem isLetter_any (c : UInt8) (w : World) :
    Calls Try.prog 99 #[.int .u8 c.toNat] w fun e w' => e = .returned (.bool (Lx.letB c)) ∧ w' = w := by
  go_enter Try.func99, Try.ntmps99
  go_wp2
  all_goals go_ret
  · exact ⟨ret_bool (by simp [Lx.letB, *]), rfl⟩
  · exact ⟨ret_bool (by simp [Lx.letB]; omega), rfl⟩
theorem letter_any (c : UInt8) (w : World) :
    Calls Try.prog 88 #[.int .u8 c.toNat] w fun e w' => e = .returned (.bool (Lx.letB c)) ∧ w' = w := by
  go_enter Try.func88, Try.ntmps88
  go_wp2
  all_goals go_ret
  · exact ⟨ret_bool (by simp [Lx.letB, *]), rfl⟩
  · exact ⟨ret_bool (by simp [Lx.letB]; omega), rfl⟩
theorem isDigit_any (c : UInt8) (w : World) :
    Calls Try.prog 100 #[.int .u8 c.toNat] w fun e w' => e = .returned (.bool (Lx.digB c)) ∧ w' = w := by
  go_enter Try.func100, Try.ntmps100
  go_wp2
  all_goals go_ret
  · exact ⟨ret_bool (by simp [Lx.digB, *]), rfl⟩
  · exact ⟨ret_bool (by simp [Lx.digB]; omega), rfl⟩
theorem digit_any (c : UInt8) (w : World) :
    Calls Try.prog 89 #[.int .u8 c.toNat] w fun e w' => e = .returned (.bool (Lx.digB c)) ∧ w' = w := by
  go_enter Try.func89, Try.ntmps89
  go_wp2
  all_goals go_ret
  · exact ⟨ret_bool (by simp [Lx.digB, *]), rfl⟩
  · exact ⟨ret_bool (by simp [Lx.digB]; omega), rfl⟩
theorem within_any (n lo hi : Int) (w : World) :
    Calls Try.prog 65 #[.int .i64 n, .int .i64 lo, .int .i64 hi] w fun e w' => e = .returned (.bool (decide (lo ≤ n) && decide (n ≤ hi))) ∧ w' = w := by
  go_enter Try.func65, Try.ntmps65
  go_wp2
  all_goals go_ret
  · exact ⟨ret_bool (by simp [*]), rfl⟩
  · exact ⟨ret_bool (by simp; omega), rfl⟩

set_option maxRecDepth 100000 in
set_option maxHeartbeats 400000 in
theorem isName_any (s : ByteArray) (w : World) (hs : s.size ≤ maxLen) :
    Calls Try.prog 97 #[.string s] w fun e w' => e = .returned (.bool (Lx.nameB s.data.toList)) ∧ w' = w := by
  unfold maxLen at hs
  by_cases h0 : s.size = 0
  · have hE : s = ⟨#[]⟩ := ByteArray.ext (Array.eq_empty_of_size_eq_zero h0)
    have HN : Hid (Lx.nameB s.data.toList = false) := Lx.nameB_empty s h0
    subst hE
    clear h0
    go_enter Try.func97, Try.ntmps97
    go_wp2_with fail
    go_ret
    exact ⟨ret_bool HN.out.symm, rfl⟩
  have h1 : 0 < s.size := by omega
  have hne : s.toList.isEmpty = false := Lx.ne_empty s h1
  clear h0
  by_cases h8 : 8 < s.size
  · have HN : Hid (Lx.nameB s.data.toList = false) := Lx.nameB_long s h8
    go_enter Try.func97, Try.ntmps97
    go_wp2_with fail
    go_ret
    exact ⟨ret_bool HN.out.symm, rfl⟩
  by_cases hl : Lx.letB s[0] = true
  · have HN : Hid (Lx.nameB s.data.toList = s.data.toList.all Lx.alnB) := Lx.nameB_rest s h1 (by omega) hl
    go_enter Try.func97, Try.ntmps97
    go_wp2_with (go_at_call 99; refine (isLetter_any _ _).mono ?_; rintro e w' ⟨rfl, rfl⟩)
    go_loop [19, 3] (fun i _ => ∃ k : Nat, k ≤ s.size ∧ i = .int .i64 k ∧ (s.data.toList.take k).all Lx.alnB = true) (fun i _ => s.size - (intOf i).toNat)
    case atStart => exact ⟨0, Nat.zero_le _, rfl, rfl⟩
    case round =>
      obtain ⟨k, hk, rfl, hall⟩ := hrel
      have HA : Hid ((s.data.toList.take k).all Lx.alnB = true) := hall
      clear hall
      by_cases hlt : k < s.size
      · have hst := Lx.all_take_snoc s k hlt Lx.alnB
        have HS : Hid ((s.data.toList.take (k + 1)).all Lx.alnB = ((s.data.toList.take k).all Lx.alnB && Lx.alnB s[k])) := hst
        clear hst
        by_cases hc : Lx.letB s[k] = true
        · go_wp2_with (go_at_call 99; refine (isLetter_any _ _).mono ?_; rintro e w' ⟨rfl, rfl⟩)
          go_round
          case rel => exact ⟨k + 1, by omega, by go_num, by rw [HS.out, HA.out]; simp [Lx.alnB, hc]⟩
          case measure => simp [intOf]; omega
        · have hc' : Lx.letB s[k] = false := by simpa using hc
          clear hc
          by_cases hd : Lx.digB s[k] = true
          · go_wp2_with (first | (go_at_call 99; refine (isLetter_any _ _).mono ?_; rintro e w' ⟨rfl, rfl⟩) | (go_at_call 100; refine (isDigit_any _ _).mono ?_; rintro e w' ⟨rfl, rfl⟩))
            go_round
            case rel => exact ⟨k + 1, by omega, by go_num, by rw [HS.out, HA.out]; simp [Lx.alnB, hd]⟩
            case measure => simp [intOf]; omega
          · have hd' : Lx.digB s[k] = false := by simpa using hd
            clear hd
            have HF : Hid (s.data.toList.all Lx.alnB = false) := Lx.not_all s k hlt _ (by simp [Lx.alnB, hc', hd'])
            go_wp2_with (first | (go_at_call 99; refine (isLetter_any _ _).mono ?_; rintro e w' ⟨rfl, rfl⟩) | (go_at_call 100; refine (isDigit_any _ _).mono ?_; rintro e w' ⟨rfl, rfl⟩))
            go_ret
            exact ⟨ret_bool (by rw [HN.out, HF.out]), rfl⟩
      · obtain rfl : k = s.size := by omega
        go_wp2
        go_ret
        exact ⟨ret_bool (by rw [HN.out, ← Lx.all_of_take, HA.out]), rfl⟩
  · have hl' : Lx.letB s[0] = false := by simpa using hl
    clear hl
    have HN : Hid (Lx.nameB s.data.toList = false) := Lx.nameB_head s h1 hl'
    go_enter Try.func97, Try.ntmps97
    go_wp2_with (go_at_call 99; refine (isLetter_any _ _).mono ?_; rintro e w' ⟨rfl, rfl⟩)
    go_ret
    exact ⟨ret_bool HN.out.symm, rfl⟩

end Go.Proofs.Ytplkbngnnaogkaa
