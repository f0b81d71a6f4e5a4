/-
  The functions that look for names, signs and runs of letters and digits answer what the plain mathematics says, and change nothing.
-/
import Derived.Test.YtfiejjaocfcheaaDoorLeaf
namespace Go.Proofs.YtfiejjaocfcheaaDoor
open Go.RowKit

set_option maxHeartbeats 400000 in
theorem IsName_any (s : ByteArray) (w : World) (hs : s.size ≤ maxLen) :
    Calls Tryd.prog 25 #[.string s] w fun e w' => e = .returned (.bool (Lx.nameB s.data.toList)) ∧ w' = w := by
  unfold maxLen at hs
  by_cases h1 : ¬ (0 < s.size ∧ s.size ≤ 8)
  · have HN : Hid (Lx.nameB s.data.toList = false) := by
      by_cases h0 : s.size = 0
      · exact Lx.nameB_empty s h0
      · exact Lx.nameB_long s (by omega)
    have hw : (decide (1 ≤ (s.size : Int)) && decide ((s.size : Int) ≤ 8)) = false := by simp; omega
    clear h1
    go_enter Tryd.func25, Tryd.ntmps25
    go_wp2_with (go_at_call 19; refine (within_any _ _ _ _).mono ?_; rintro e w' ⟨rfl, rfl⟩)
    go_ret
    exact ⟨ret_bool HN.out.symm, rfl⟩
  obtain ⟨h1, h8⟩ := Classical.not_not.1 h1
  have hw : (decide (1 ≤ (s.size : Int)) && decide ((s.size : Int) ≤ 8)) = true := by simp; omega
  by_cases hl : Lx.letB s[0] = true
  · have HN : Hid (Lx.nameB s.data.toList = s.data.toList.all Lx.alnB) := Lx.nameB_rest s h1 (by omega) hl
    go_enter Tryd.func25, Tryd.ntmps25
    go_wp2_with (first | (go_at_call 19; refine (within_any _ _ _ _).mono ?_; rintro e w' ⟨rfl, rfl⟩) | (go_at_call 37; refine (letter_any _ _).mono ?_; rintro e w' ⟨rfl, rfl⟩))
    go_loop [3] (fun i => ∃ k : Nat, k ≤ s.size ∧ i = .int .i64 k ∧ (s.data.toList.take k).all Lx.alnB = true) (fun i => s.size - (intOf i).toNat)
    case atStart => exact ⟨0, Nat.zero_le _, rfl, rfl⟩
    case round =>
      obtain ⟨k, hk, rfl, hall⟩ := hrel
      have HA : Hid ((s.data.toList.take k).all Lx.alnB = true) := hall
      clear hall
      by_cases hlt : k < s.size
      · have hst := Lx.all_take_snoc s k hlt Lx.alnB
        have HS : Hid ((s.data.toList.take (k + 1)).all Lx.alnB = ((s.data.toList.take k).all Lx.alnB && Lx.alnB s[k])) := hst
        clear hst
        by_cases hc : Lx.letB s[k] = true
        · go_wp2_with (go_at_call 37; refine (letter_any _ _).mono ?_; rintro e w' ⟨rfl, rfl⟩)
          go_round
          case rel => exact ⟨k + 1, by omega, by go_num, by rw [HS.out, HA.out]; simp [Lx.alnB, hc]⟩
          case measure => simp [intOf]; omega
        · have hc' : Lx.letB s[k] = false := by simpa using hc
          clear hc
          by_cases hd : Lx.digB s[k] = true
          · go_wp2_with (first | (go_at_call 37; refine (letter_any _ _).mono ?_; rintro e w' ⟨rfl, rfl⟩) | (go_at_call 38; refine (digit_any _ _).mono ?_; rintro e w' ⟨rfl, rfl⟩))
            go_round
            case rel => exact ⟨k + 1, by omega, by go_num, by rw [HS.out, HA.out]; simp [Lx.alnB, hd]⟩
            case measure => simp [intOf]; omega
          · have hd' : Lx.digB s[k] = false := by simpa using hd
            clear hd
            have HF : Hid (s.data.toList.all Lx.alnB = false) := Lx.not_all s k hlt _ (by simp [Lx.alnB, hc', hd'])
            go_wp2_with (first | (go_at_call 37; refine (letter_any _ _).mono ?_; rintro e w' ⟨rfl, rfl⟩) | (go_at_call 38; refine (digit_any _ _).mono ?_; rintro e w' ⟨rfl, rfl⟩))
            go_ret
            exact ⟨ret_bool (by rw [HN.out, HF.out]), rfl⟩
      · obtain rfl : k = s.size := by omega
        go_wp2
        go_ret
        exact ⟨ret_bool (by rw [HN.out, ← Lx.all_of_take, HA.out]), rfl⟩
  · have hl' : Lx.letB s[0] = false := by simpa using hl
    clear hl
    have HN : Hid (Lx.nameB s.data.toList = false) := Lx.nameB_head s h1 hl'
    go_enter Tryd.func25, Tryd.ntmps25
    go_wp2_with (first | (go_at_call 19; refine (within_any _ _ _ _).mono ?_; rintro e w' ⟨rfl, rfl⟩) | (go_at_call 37; refine (letter_any _ _).mono ?_; rintro e w' ⟨rfl, rfl⟩))
    go_ret
    exact ⟨ret_bool HN.out.symm, rfl⟩

def signsBA : ByteArray := ⟨#[123, 125, 40, 41, 91, 93, 44, 59, 61, 46, 43, 45, 42, 47, 37, 60, 33, 38, 124]⟩
theorem signs_any (w : World) : Calls Tryd.prog 39 #[] w fun e w' => e = .returned (.string signsBA) ∧ w' = w := by
  go_enter Tryd.func39, Tryd.ntmps39
  go_wp2
  go_ret
  exact ⟨rfl, rfl⟩

theorem signsBA_size : signsBA.size = 19 := rfl
theorem signsBA_get (k : Nat) (h : k < signsBA.size) : signsBA[k] = Lx.signs[k]'h := rfl
set_option maxHeartbeats 400000 in
theorem RisSign_any (c : UInt8) (w : World) :
    Calls Tryd.prog 27 #[.int .u8 c.toNat] w fun e w' => e = .returned (.bool (Lx.signB c)) ∧ w' = w := by
  go_enter Tryd.func27, Tryd.ntmps27
  go_wp2_with (go_at_call 39; refine (signs_any _).mono ?_; rintro e w' ⟨rfl, rfl⟩)
  have hsz := signsBA_size
  generalize hS : signsBA = S at *
  have HS : Hid (signsBA = S) := hS
  clear hS
  go_loop [4] (fun i => ∃ k : Nat, k ≤ S.size ∧ i = .int .i64 k ∧ ∀ j (hj : j < Lx.signs.length), j < k → Lx.signs[j] ≠ c) (fun i => S.size - (intOf i).toNat)
  case atStart => exact ⟨0, Nat.zero_le _, rfl, fun j _ h => by omega⟩
  case round =>
    obtain ⟨k, hk, rfl, hall⟩ := hrel
    have HA : Hid (∀ j (hj : j < Lx.signs.length), j < k → Lx.signs[j] ≠ c) := hall
    clear hall
    by_cases hlt : k < S.size
    · have hl : k < Lx.signs.length := by have : Lx.signs.length = 19 := rfl; omega
      have HG : Hid (S[k] = Lx.signs[k]) := by have := HS.out; subst this; exact signsBA_get k hlt
      by_cases hc : S[k] = c
      · have hcb : (((S[k].toNat : Nat) : Int) == ((c.toNat : Nat) : Int)) = true := by rw [hc]; simp
        have HC : Hid (Lx.signB c = true) := Lx.signs_has k c hl (by rw [← HG.out]; exact hc)
        clear hc
        go_wp2_with fail
        go_ret
        exact ⟨ret_bool HC.out.symm, rfl⟩
      · have hcb : (((S[k].toNat : Nat) : Int) == ((c.toNat : Nat) : Int)) = false := by
          rw [beq_eq_false_iff_ne]; intro h; exact hc (UInt8.toNat_inj.1 (by omega))
        have HC : Hid (Lx.signs[k] ≠ c) := by rw [← HG.out]; exact hc
        clear hc
        go_wp2_with fail
        go_round
        case rel => exact ⟨k + 1, by omega, by go_num, fun j hj hjk => by
          by_cases e : j = k
          · subst e; exact HC.out
          · exact HA.out j hj (by omega)⟩
        case measure => simp [intOf]; omega
    · go_wp2
      go_ret
      exact ⟨ret_bool (Lx.signs_none c (fun j hj => HA.out j hj (by have : Lx.signs.length = 19 := rfl; omega))).symm, rfl⟩

set_option maxHeartbeats 400000 in
theorem run_any (s : ByteArray) (a : Nat) (w : World) (hs : s.size ≤ maxLen) (ha : a ≤ s.size) :
    Calls Tryd.prog 24 #[.string s, .int .i64 a] w fun e w' => e = .returned (.int .i64 (Lx.runN s a)) ∧ w' = w := by
  unfold maxLen at hs
  go_enter Tryd.func24, Tryd.ntmps24
  go_wp2_with fail
  go_loop [5] (fun i => ∃ k : Nat, a + k ≤ s.size ∧ i = .int .i64 k ∧ ((s.data.toList.drop a).take k).all Lx.alnB = true) (fun i => s.size - (intOf i).toNat)
  case atStart => exact ⟨0, by omega, rfl, by simp⟩
  case round =>
    obtain ⟨k, hk, rfl, hall⟩ := hrel
    have HA : Hid (((s.data.toList.drop a).take k).all Lx.alnB = true) := hall
    clear hall
    by_cases hlt : a + k < s.size
    · have HS : Hid (((s.data.toList.drop a).take (k + 1)).all Lx.alnB = (((s.data.toList.drop a).take k).all Lx.alnB && Lx.alnB s[a + k])) := Lx.seg_snoc s a k hlt
      by_cases hc : Lx.letB s[a + k] = true
      · go_wp2_with (go_at_call 37; refine (letter_any _ _).mono ?_; rintro e w' ⟨rfl, rfl⟩)
        go_round
        case rel => exact ⟨k + 1, by omega, by go_num, by rw [HS.out, HA.out]; simp [Lx.alnB, hc]⟩
        case measure => simp [intOf]; omega
      · have hc' : Lx.letB s[a + k] = false := by simpa using hc
        clear hc
        by_cases hd : Lx.digB s[a + k] = true
        · go_wp2_with (first | (go_at_call 37; refine (letter_any _ _).mono ?_; rintro e w' ⟨rfl, rfl⟩) | (go_at_call 38; refine (digit_any _ _).mono ?_; rintro e w' ⟨rfl, rfl⟩))
          go_round
          case rel => exact ⟨k + 1, by omega, by go_num, by rw [HS.out, HA.out]; simp [Lx.alnB, hd]⟩
          case measure => simp [intOf]; omega
        · have hd' : Lx.digB s[a + k] = false := by simpa using hd
          clear hd
          have HF : Hid (Lx.runN s a = k) := Lx.runN_stop s a k HA.out hlt (by simp [Lx.alnB, hc', hd'])
          go_wp2_with (first | (go_at_call 37; refine (letter_any _ _).mono ?_; rintro e w' ⟨rfl, rfl⟩) | (go_at_call 38; refine (digit_any _ _).mono ?_; rintro e w' ⟨rfl, rfl⟩))
          go_ret
          exact ⟨ret_int (by rw [HF.out]), rfl⟩
    · go_wp2_with fail
      go_ret
      exact ⟨ret_int (by rw [Lx.runN_end s a k HA.out (by omega)]), rfl⟩

set_option maxHeartbeats 400000 in
theorem pieceEnd_any (s : ByteArray) (a : Nat) (w : World) (hs : s.size ≤ maxLen) (ha : a < s.size) :
    Calls Tryd.prog 34 #[.string s, .int .i64 a] w fun e w' => e = .returned (.int .i64 ((a + Lx.pieceN s a : Nat) : Int)) ∧ w' = w := by
  unfold maxLen at hs
  by_cases hal : Lx.alnB s[a] = true
  · have key : ∀ w : World, Calls Tryd.prog 34 #[.string s, .int .i64 a] w fun e w' => e = .returned (.int .i64 ((a + Lx.pieceN s a : Nat) : Int)) ∧ w' = w := by
      intro w
      have H1 : Hid (((s.data.toList.drop a).take 1).all Lx.alnB = true) := by
        show ((s.data.toList.drop a).take 1).all Lx.alnB = true
        rw [Lx.seg_one s a ha]; exact hal
      have H2 : Hid (Lx.letB s[a] = true ∨ Lx.letB s[a] = false ∧ Lx.digB s[a] = true) := by
        show Lx.letB s[a] = true ∨ Lx.letB s[a] = false ∧ Lx.digB s[a] = true
        unfold Lx.alnB at hal
        cases h : Lx.letB s[a] with
        | true => exact Or.inl rfl
        | false => rw [h] at hal; exact Or.inr ⟨rfl, by simpa using hal⟩
      clear hal
      rcases H2.out with hl | ⟨hl, hd⟩
      all_goals
        go_enter Tryd.func34, Tryd.ntmps34
        go_wp2_with (first | (go_at_call 42; refine (isLetter_any _ _).mono ?_; rintro e w' ⟨rfl, rfl⟩) | (go_at_call 43; refine (isDigit_any _ _).mono ?_; rintro e w' ⟨rfl, rfl⟩))
        go_loop [5] (fun i => ∃ k : Nat, 0 < k ∧ a + k ≤ s.size ∧ i = .int .i64 ((a + k : Nat) : Int) ∧ ((s.data.toList.drop a).take k).all Lx.alnB = true) (fun i => s.size - (intOf i).toNat)
        case atStart => exact ⟨1, by omega, by omega, by go_num, H1.out⟩
        case round =>
          obtain ⟨k, hk0, hk, rfl, hall⟩ := hrel
          have HA : Hid (((s.data.toList.drop a).take k).all Lx.alnB = true) := hall
          clear hall hl H2
          try clear hd
          by_cases hlt : a + k < s.size
          · have HS : Hid (((s.data.toList.drop a).take (k + 1)).all Lx.alnB = (((s.data.toList.drop a).take k).all Lx.alnB && Lx.alnB s[a + k])) := Lx.seg_snoc s a k hlt
            by_cases hc : Lx.letB s[a + k] = true
            · go_wp2_with (first | (go_at_call 42; refine (isLetter_any _ _).mono ?_; rintro e w' ⟨rfl, rfl⟩) | (go_at_call 43; refine (isDigit_any _ _).mono ?_; rintro e w' ⟨rfl, rfl⟩))
              go_round
              case rel => exact ⟨k + 1, by omega, by omega, by go_num, by rw [HS.out, HA.out]; simp [Lx.alnB, hc]⟩
              case measure => simp [intOf]; omega
            · have hc' : Lx.letB s[a + k] = false := by simpa using hc
              clear hc
              by_cases hd : Lx.digB s[a + k] = true
              · go_wp2_with (first | (go_at_call 42; refine (isLetter_any _ _).mono ?_; rintro e w' ⟨rfl, rfl⟩) | (go_at_call 43; refine (isDigit_any _ _).mono ?_; rintro e w' ⟨rfl, rfl⟩))
                go_round
                case rel => exact ⟨k + 1, by omega, by omega, by go_num, by rw [HS.out, HA.out]; simp [Lx.alnB, hd]⟩
                case measure => simp [intOf]; omega
              · have hd' : Lx.digB s[a + k] = false := by simpa using hd
                clear hd
                have HF : Hid (Lx.pieceN s a = k) := Lx.pieceN_of s a k hk0 (Lx.runN_stop s a k HA.out hlt (by simp [Lx.alnB, hc', hd']))
                go_wp2_with (first | (go_at_call 42; refine (isLetter_any _ _).mono ?_; rintro e w' ⟨rfl, rfl⟩) | (go_at_call 43; refine (isDigit_any _ _).mono ?_; rintro e w' ⟨rfl, rfl⟩))
                go_ret
                exact ⟨ret_int (by rw [HF.out] <;> omega), rfl⟩
          · have HF : Hid (Lx.pieceN s a = k) := Lx.pieceN_of s a k hk0 (Lx.runN_end s a k HA.out (by omega))
            go_wp2_with fail
            go_ret
            exact ⟨ret_int (by rw [HF.out] <;> omega), rfl⟩
    exact key w
  · have hal' : Lx.alnB s[a] = false := by simpa using hal
    have HF : Hid (Lx.pieceN s a = 1) := Lx.pieceN_other s a ha hal'
    have hl : Lx.letB s[a] = false := by unfold Lx.alnB at hal'; simp at hal'; exact hal'.1
    have hd : Lx.digB s[a] = false := by unfold Lx.alnB at hal'; simp at hal'; exact hal'.2
    clear hal hal'
    go_enter Tryd.func34, Tryd.ntmps34
    go_wp2_with (first | (go_at_call 42; refine (isLetter_any _ _).mono ?_; rintro e w' ⟨rfl, rfl⟩) | (go_at_call 43; refine (isDigit_any _ _).mono ?_; rintro e w' ⟨rfl, rfl⟩))
    go_ret
    exact ⟨ret_int (by rw [HF.out] <;> omega), rfl⟩

end Go.Proofs.YtfiejjaocfcheaaDoor
