/-
  The functions that tell signs and numbers answer what the plain mathematics says; the program's own one panics where the digits are no number.
-/
import Derived.Test.YtfiejjaocfcheaaDoorLeafb
import Derived.Test.YtfiejjaocfcheaaDoorShelf
import Derived.Test.YtfiejjaocfcheaaDoorNum
namespace Go.Proofs.YtfiejjaocfcheaaDoor
open Go.RowKit

theorem byte_back (c : UInt8) : ((c.toNat : Int)).toNat.toUInt8 = c := by simp
set_option maxHeartbeats 400000 in
theorem isSign_any (s : ByteArray) (w : World) :
    Calls Tryd.prog 32 #[.string s] w fun e w' => e = .returned (.bool (Lx.signL s.data.toList)) ∧ w' = w := by
  by_cases h1 : s.size = 1
  · have h0 : 0 < s.size := by omega
    have HN : Hid (Lx.signL s.data.toList = decide (0 ≤ Lib.indexByte signsBA.data.toList s[0])) := by
      have := Lx.indexByte_sign s[0]
      exact (Lx.signL_one s h1).trans this.symm
    have hlen : ((s.size : Int) == 1) = true := by rw [beq_iff_eq]; omega
    clear h1
    go_enter Tryd.func32, Tryd.ntmps32
    go_wp2_with (go_at_call 44; refine (Tryd.strings_IndexByte signsBA _ _).mono ?_; rintro e w' ⟨rfl, rfl⟩)
    all_goals go_ret
    all_goals exact ⟨ret_bool (by rw [HN.out]; simp), rfl⟩
  · have HN : Hid (Lx.signL s.data.toList = false) := Lx.signL_other s h1
    have hlen : ((s.size : Int) == 1) = false := by rw [beq_eq_false_iff_ne]; omega
    clear h1
    go_enter Tryd.func32, Tryd.ntmps32
    go_wp2_with fail
    go_ret
    exact ⟨ret_bool HN.out.symm, rfl⟩

def errPanic : List PanicEntry := [{ v := .iface 23 (.int .i64 1), recovered := false }]
def numEnd (l : List UInt8) : Ending := if Lx.numOk l then .returned (.int .i64 (Lx.valL l)) else .panicked errPanic
theorem numEnd_yes {l : List UInt8} (h : Lx.numOk l = true) : numEnd l = .returned (.int .i64 (Lx.valL l)) := by unfold numEnd; rw [h]; rfl
theorem numEnd_no {l : List UInt8} (h : Lx.numOk l = false) : numEnd l = .panicked errPanic := by unfold numEnd; rw [h]; rfl

set_option maxHeartbeats 400000 in
theorem number_any (s : ByteArray) (w : World) (hs : s.size ≤ maxLen) :
    Calls Tryd.prog 45 #[.string s] w fun e w' => e = numEnd s.data.toList ∧ w' = w := by
  unfold maxLen at hs
  by_cases hlead : ∃ h : 1 < s.size, s[0] = 48
  · obtain ⟨h1, h0⟩ := hlead
    have HN : Hid (numEnd s.data.toList = .panicked errPanic) := numEnd_no (Lx.numOk_lead _ (Lx.lead_bad s h1 h0))
    have hb : (((s[0].toNat : Nat) : Int) == 48) = true := by rw [h0]; rfl
    clear h0
    go_enter Tryd.func45, Tryd.ntmps45
    go_wp2_with fail
    exact ⟨rfl, HN.out.symm, rfl⟩
  · have HL : Hid (Lx.leadOk s.data.toList = true) := Lx.lead_good s (fun h1 h0 => hlead ⟨h1, h0⟩)
    have hpart : (¬ 1 < s.size) ∨ ∃ h : 1 < s.size, (((s[0].toNat : Nat) : Int) == 48) = false := by
      by_cases h1 : 1 < s.size
      · refine Or.inr ⟨h1, ?_⟩
        rw [beq_eq_false_iff_ne]
        intro e
        exact hlead ⟨h1, UInt8.toNat_inj.1 (by show s[0].toNat = 48; omega)⟩
      · exact Or.inl h1
    clear hlead
    rcases hpart with h1 | ⟨h1, hb⟩
    all_goals
      go_enter Tryd.func45, Tryd.ntmps45
      go_wp2_with fail
      go_loop [16, 3, 4] (fun i n _ => ∃ k : Nat, k ≤ s.size ∧ i = .int .i64 k ∧ n = .int .i64 (Lx.valL (s.data.toList.take k)) ∧ (s.data.toList.take k).all Lx.digB = true ∧ Lx.valL (s.data.toList.take k) ≤ 1099511627775) (fun i _ _ => s.size - (intOf i).toNat)
      case atStart => exact ⟨0, Nat.zero_le _, rfl, rfl, rfl, by simp [Lx.valL]⟩
      case round =>
        obtain ⟨k, hk, rfl, rfl, hall, hv⟩ := hrel
        have HA : Hid ((s.data.toList.take k).all Lx.digB = true) := hall
        clear hall
        by_cases hlt : k < s.size
        · by_cases hd : Lx.digB s[k] = true
          · have HS : Hid ((s.data.toList.take (k + 1)).all Lx.digB = ((s.data.toList.take k).all Lx.digB && Lx.digB s[k])) := Lx.all_take_snoc s k hlt Lx.digB
            have HV : Hid (Lx.valL (s.data.toList.take (k + 1)) = 10 * Lx.valL (s.data.toList.take k) + Lx.dv s[k]) := Lx.val_take_snoc s k hlt
            have hr := Lx.dig_range _ hd
            have HB : Hid (Lx.valL (s.data.toList.take (k + 1)) ≤ 1099511627775 ∨ Lx.numOk s.data.toList = false) := by
              by_cases hm : Lx.valL (s.data.toList.take (k + 1)) ≤ 1099511627775
              · exact Or.inl hm
              · exact Or.inr (Lx.numOk_big s (k + 1) (by omega))
            generalize hV : Lx.valL (s.data.toList.take k) = V at *
            have HVV : Hid (Lx.valL (s.data.toList.take k) = V) := hV
            clear hV
            obtain ⟨hr0, hr1⟩ := hr
            go_wp2_with (go_at_call 43; refine (isDigit_any _ _).mono ?_; rintro e w' ⟨rfl, rfl⟩)
            · have hN : Lx.numOk s.data.toList = false := by
                rcases HB.out with h | h
                · rw [HV.out] at h; unfold Lx.dv at h; omega
                · exact h
              exact ⟨rfl, (numEnd_no hN).symm, rfl⟩
            · go_round
              case rel => exact ⟨k + 1, by omega, by go_num, by rw [HV.out]; unfold Lx.dv; go_num, by rw [HS.out, HA.out]; simp [hd], by rw [HV.out]; unfold Lx.dv; omega⟩
              case measure => simp [intOf]; omega
          · have hd' : Lx.digB s[k] = false := by simpa using hd
            clear hd
            have HN : Hid (numEnd s.data.toList = .panicked errPanic) := numEnd_no (Lx.numOk_nondigit _ (Lx.not_all s k hlt _ hd'))
            go_wp2_with (go_at_call 43; refine (isDigit_any _ _).mono ?_; rintro e w' ⟨rfl, rfl⟩)
            exact ⟨rfl, HN.out.symm, rfl⟩
        · obtain rfl : k = s.size := by omega
          have HN : Hid (numEnd s.data.toList = .returned (.int .i64 (Lx.valL (s.data.toList.take s.size)))) := by
            have hT : s.data.toList.take s.size = s.data.toList := List.take_of_length_le (by rw [Lx.len_toList]; exact Nat.le_refl _)
            rw [hT] at HA hv ⊢
            exact numEnd_yes (by unfold Lx.numOk; rw [HA.out, HL.out]; simp; exact hv)
          go_wp2_with fail
          go_ret
          exact ⟨HN.out.symm, rfl⟩

def strOf (l : List UInt8) : ByteArray := ⟨l.toArray⟩
theorem ret_str {a b : ByteArray} (h : a = b) : Ending.returned (.string a) = .returned (.string b) := by rw [h]
theorem strOf_list (l : List UInt8) : (strOf l).data.toList = l := by simp [strOf]
theorem strOf_back (s : ByteArray) : strOf s.data.toList = s := by simp [strOf]
theorem strOf_size (l : List UInt8) : (strOf l).size = l.length := by simp [strOf, ByteArray.size]
theorem strOf_append (a b : List UInt8) : strOf a ++ strOf b = strOf (a ++ b) := by
  apply ByteArray.ext
  simp [strOf]

def digL (n : Nat) : List UInt8 := [UInt8.ofNat (48 + n % 10)]
set_option maxHeartbeats 400000 in
theorem Digits_any (n : Nat) : ∀ (w : World), n < 9223372036854775807 →
    Calls Tryd.prog 30 #[.int .i64 n] w fun e w' => e = .returned (.string (strOf (Lib.decDigits n))) ∧ Below w.heap.size w w' := by
  induction n using Nat.strongRecOn with
  | _ n ih =>
    intro w hn
    have IH : Hid (n / 10 < n → ∀ (w : World), n / 10 < 9223372036854775807 → Calls Tryd.prog 30 #[.int .i64 ((n / 10 : Nat) : Int)] w fun e w' => e = .returned (.string (strOf (Lib.decDigits (n / 10)))) ∧ Below w.heap.size w w') := ih (n / 10)
    clear ih
    have HD : Hid (Lib.decDigits n = if n < 10 then digL n else Lib.decDigits (n / 10) ++ digL n) := by
      show Lib.decDigits n = _
      rw [Lib.decDigits]
      split
      · unfold digL; rw [Nat.mod_eq_of_lt (by omega)]
      · rfl
    have hcv : (convert 37 9 (.slice (some ⟨w.heap.size, 0, none⟩) 1 1)).run Tryd.prog (w.alloc (.cells #[.int .u8 (48 + (n : Int) % 10)] 5)) = .ok (.string (strOf (digL n))) (w.alloc (.cells #[.int .u8 (48 + (n : Int) % 10)] 5)) := by
      refine run_convert_bytes_back (P := Tryd.prog) _ 37 9 5 ⟨w.heap.size, 0, none⟩ 1 [UInt8.ofNat (48 + n % 10)] Tryd.underlying37 Tryd.underlying5 Tryd.underlying9 ?_
      intro j hj
      simp only [List.length_cons, List.length_nil, Nat.zero_add, Nat.lt_one_iff] at hj
      subst hj
      have e : ((UInt8.ofNat (48 + n % 10)).toNat : Int) = 48 + (n : Int) % 10 := by rw [UInt8.toNat_ofNat']; omega
      simp only [List.getElem_cons_zero, e]
      simp [go_sem]
    by_cases h10 : n < 10
    · go_enter Tryd.func30, Tryd.ntmps30
      go_wp2_with fail
      go_ret
      exact ⟨ret_str (by rw [HD.out, if_pos h10]), (Below.refl _ _).alloc (Nat.le_refl _) _⟩
    · go_enter Tryd.func30, Tryd.ntmps30
      go_wp2_with fail
      have e10 : ((n : Int) / 10) = ((n / 10 : Nat) : Int) := by omega
      rw [e10]
      clear e10
      refine (IH.out (by omega) _ (by omega)).mono ?_
      rintro e w' ⟨rfl, hb⟩
      have hsz : (strOf (Lib.decDigits (n / 10))).size + (strOf (digL n)).size ≤ 9223372036854775807 := by
        have := Lx.dec_len_le (n / 10)
        rw [strOf_size, strOf_size]
        simp only [digL, List.length_cons, List.length_nil]
        omega
      go_wp2_with fail
      go_ret
      refine ⟨ret_str (by rw [HD.out, if_neg h10, ← strOf_append]), ?_⟩
      exact ((Below.refl _ _).alloc (Nat.le_refl _) _).trans (hb.mono (by simp))

end Go.Proofs.YtfiejjaocfcheaaDoor
