/-
  The functions that look for names, signs and runs of letters and digits answer what the plain mathematics says, and change nothing.
-/
import Derived.Test.YtplkbngnnaogkaaLeaf
namespace Go.Proofs.Ytplkbngnnaogkaa
open Go.RowKit

set_option maxRecDepth 100000 in
set_option maxHeartbeats 400000 in
theorem IsName_any (s : ByteArray) (w : World) (hs : s.size ≤ maxLen) :
    Calls Try.prog 83 #[.string s] w fun e w' => e = .returned (.bool (Lx.nameB s.data.toList)) ∧ w' = w := by
  unfold maxLen at hs
  by_cases h1 : ¬ (0 < s.size ∧ s.size ≤ 8)
  · have HN : Hid (Lx.nameB s.data.toList = false) := by
      by_cases h0 : s.size = 0
      · exact Lx.nameB_empty s h0
      · exact Lx.nameB_long s (by omega)
    have hw : (decide (1 ≤ (s.size : Int)) && decide ((s.size : Int) ≤ 8)) = false := by simp; omega
    clear h1
    go_enter Try.func83, Try.ntmps83
    go_wp2_with (go_at_call 65; refine (within_any _ _ _ _).mono ?_; rintro e w' ⟨rfl, rfl⟩)
    go_ret
    exact ⟨ret_bool HN.out.symm, rfl⟩
  obtain ⟨h1, h8⟩ := Classical.not_not.1 h1
  have hw : (decide (1 ≤ (s.size : Int)) && decide ((s.size : Int) ≤ 8)) = true := by simp; omega
  by_cases hl : Lx.letB s[0] = true
  · have HN : Hid (Lx.nameB s.data.toList = s.data.toList.all Lx.alnB) := Lx.nameB_rest s h1 (by omega) hl
    go_enter Try.func83, Try.ntmps83
    go_wp2_with (first | (go_at_call 65; refine (within_any _ _ _ _).mono ?_; rintro e w' ⟨rfl, rfl⟩) | (go_at_call 88; refine (letter_any _ _).mono ?_; rintro e w' ⟨rfl, rfl⟩))
    go_loop [3] (fun i => ∃ k : Nat, k ≤ s.size ∧ i = .int .i64 k ∧ (s.data.toList.take k).all Lx.alnB = true) (fun i => s.size - (intOf i).toNat)
    case atStart => exact ⟨0, Nat.zero_le _, rfl, rfl⟩
    case round =>
      obtain ⟨k, hk, rfl, hall⟩ := hrel
      have HA : Hid ((s.data.toList.take k).all Lx.alnB = true) := hall
      clear hall
      by_cases hlt : k < s.size
      · have hst := Lx.all_take_snoc s k hlt Lx.alnB
        have HS : Hid ((s.data.toList.take (k + 1)).all Lx.alnB = ((s.data.toList.take k).all Lx.alnB && Lx.alnB s[k])) := hst
        clear hst
        by_cases hc : Lx.letB s[k] = true
        · go_wp2_with (go_at_call 88; refine (letter_any _ _).mono ?_; rintro e w' ⟨rfl, rfl⟩)
          go_round
          case rel => exact ⟨k + 1, by omega, by go_num, by rw [HS.out, HA.out]; simp [Lx.alnB, hc]⟩
          case measure => simp [intOf]; omega
        · have hc' : Lx.letB s[k] = false := by simpa using hc
          clear hc
          by_cases hd : Lx.digB s[k] = true
          · go_wp2_with (first | (go_at_call 88; refine (letter_any _ _).mono ?_; rintro e w' ⟨rfl, rfl⟩) | (go_at_call 89; refine (digit_any _ _).mono ?_; rintro e w' ⟨rfl, rfl⟩))
            go_round
            case rel => exact ⟨k + 1, by omega, by go_num, by rw [HS.out, HA.out]; simp [Lx.alnB, hd]⟩
            case measure => simp [intOf]; omega
          · have hd' : Lx.digB s[k] = false := by simpa using hd
            clear hd
            have HF : Hid (s.data.toList.all Lx.alnB = false) := Lx.not_all s k hlt _ (by simp [Lx.alnB, hc', hd'])
            go_wp2_with (first | (go_at_call 88; refine (letter_any _ _).mono ?_; rintro e w' ⟨rfl, rfl⟩) | (go_at_call 89; refine (digit_any _ _).mono ?_; rintro e w' ⟨rfl, rfl⟩))
            go_ret
            exact ⟨ret_bool (by rw [HN.out, HF.out]), rfl⟩
      · obtain rfl : k = s.size := by omega
        go_wp2
        go_ret
        exact ⟨ret_bool (by rw [HN.out, ← Lx.all_of_take, HA.out]), rfl⟩
  · have hl' : Lx.letB s[0] = false := by simpa using hl
    clear hl
    have HN : Hid (Lx.nameB s.data.toList = false) := Lx.nameB_head s h1 hl'
    go_enter Try.func83, Try.ntmps83
    go_wp2_with (first | (go_at_call 65; refine (within_any _ _ _ _).mono ?_; rintro e w' ⟨rfl, rfl⟩) | (go_at_call 88; refine (letter_any _ _).mono ?_; rintro e w' ⟨rfl, rfl⟩))
    go_ret
    exact ⟨ret_bool HN.out.symm, rfl⟩

def signsBA : ByteArray := ⟨#[123, 125, 40, 41, 91, 93, 44, 59, 61, 46, 43, 45, 42, 47, 37, 60, 33, 38, 124]⟩
theorem signsBA_size : signsBA.size = 19 := rfl
theorem signsBA_get (k : Nat) (h : k < signsBA.size) : signsBA[k] = Lx.signs[k]'h := rfl
end Go.Proofs.Ytplkbngnnaogkaa
