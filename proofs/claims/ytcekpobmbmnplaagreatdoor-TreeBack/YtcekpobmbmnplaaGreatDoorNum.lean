/-
  The plain mathematics of numerals: which digits are a number of a token, and that they are the numeral of its value.
-/
import Derived.Test.YtcekpobmbmnplaaGreatDoorPure
import Derived.Lib.ItoaMem
import Derived.Lib.Bytealg
import Derived.Lib.IndexLaws
import Derived.Test.YtcekpobmbmnplaaGreatDoorShelf
import Derived.Deep.LoopGhost
namespace Go.Proofs.YtcekpobmbmnplaaGreatDoor
namespace Lx

def dv (c : UInt8) : Nat := c.toNat - 48
def valL (l : List UInt8) : Nat := l.foldl (fun n c => 10 * n + dv c) 0
def leadOk : List UInt8 → Bool
  | [] => true
  | [_] => true
  | c :: _ => c != 48
def numOk (l : List UInt8) : Bool := l.all digB && leadOk l && decide (valL l ≤ 1099511627775)
def signL : List UInt8 → Bool
  | [c] => signB c
  | _ => false

theorem valL_snoc (l : List UInt8) (c : UInt8) : valL (l ++ [c]) = 10 * valL l + dv c := by simp [valL, List.foldl_append]
theorem foldl_ge (l : List UInt8) : ∀ n : Nat, n ≤ l.foldl (fun n c => 10 * n + dv c) n := by
  induction l with
  | nil => intro n; exact Nat.le_refl _
  | cons c l ih => intro n; simp only [List.foldl_cons]; have := ih (10 * n + dv c); omega
theorem valL_append_ge (a b : List UInt8) : valL a ≤ valL (a ++ b) := by
  unfold valL; rw [List.foldl_append]; exact foldl_ge b _
theorem dig_range (c : UInt8) (h : digB c = true) : 48 ≤ c.toNat ∧ c.toNat ≤ 57 := by
  simp [digB] at h; omega
theorem ofNat_dv (c : UInt8) (h : digB c = true) : UInt8.ofNat (48 + dv c) = c := by
  have := dig_range c h
  apply UInt8.toNat_inj.1
  rw [UInt8.toNat_ofNat']
  unfold dv
  omega
/- Digits without a nought ahead are the numeral of their value. -/
theorem dec_val : ∀ (n : Nat) (l : List UInt8), l.length = n → l ≠ [] → l.all digB = true → leadOk l = true → Lib.decDigits (valL l) = l ∧ (2 ≤ l.length → 0 < valL l) := by
  intro n
  induction n with
  | zero => intro l hl hne; exact absurd (List.eq_nil_of_length_eq_zero hl) hne
  | succ n ih =>
    intro l hl _ hd hlead
    obtain ⟨i, c, rfl⟩ : ∃ i c, l = i ++ [c] := ⟨l.dropLast, l.getLast (by intro h; simp [h] at hl), (List.dropLast_concat_getLast _).symm⟩
    simp only [List.all_append, List.all_cons, List.all_nil, Bool.and_true, Bool.and_eq_true] at hd
    have hc := dig_range c hd.2
    rw [valL_snoc]
    cases i with
    | nil =>
      refine ⟨?_, by simp⟩
      have e : 10 * valL [] + dv c = dv c := by simp [valL]
      rw [e, List.nil_append, Lib.decDigits, dif_pos (by unfold dv; omega), ofNat_dv c hd.2]
    | cons x r =>
      have hlead' : leadOk (x :: r) = true := by
        cases r with
        | nil => rfl
        | cons y r => exact hlead
      have hx : (x != 48) = true := by
        cases r with
        | nil => simpa [leadOk] using hlead
        | cons y r => simpa [leadOk] using hlead
      obtain ⟨h1, h2⟩ := ih (x :: r) (by simp at hl; simp; omega) (by simp) hd.1 hlead'
      have hpos : 0 < valL (x :: r) := by
        cases r with
        | nil =>
          have hxr := dig_range x (by simp at hd; exact hd.1)
          have : x.toNat ≠ 48 := fun e => by
            rw [bne_iff_ne] at hx; exact hx (UInt8.toNat_inj.1 (by rw [e]; rfl))
          simp [valL, dv]; omega
        | cons y r => exact h2 (by simp)
      have hdv : dv c < 10 := by unfold dv; omega
      refine ⟨?_, fun _ => by omega⟩
      rw [Lib.decDigits, dif_neg (by omega), show (10 * valL (x :: r) + dv c) / 10 = valL (x :: r) from by omega, show (10 * valL (x :: r) + dv c) % 10 = dv c from by omega, h1, ofNat_dv c hd.2]
theorem dec_pos_head (u : Nat) : ∀ c r, Lib.decDigits u = c :: r → 10 ≤ u → c ≠ 48 := by
  induction u using Nat.strongRecOn with
  | _ u ih =>
    intro c r h hu
    rw [Lib.decDigits, dif_neg (by omega)] at h
    by_cases h10 : u / 10 < 10
    · rw [Lib.decDigits, dif_pos h10] at h
      rw [List.singleton_append, List.cons.injEq] at h
      rw [← h.1]
      intro e
      have := congrArg UInt8.toNat e
      rw [UInt8.toNat_ofNat'] at this
      have e48 : (48 : UInt8).toNat = 48 := rfl
      omega
    · cases hd : Lib.decDigits (u / 10) with
      | nil => rw [Lib.decDigits, dif_neg h10] at hd; simp at hd
      | cons x y =>
        rw [hd] at h
        simp at h
        rw [← h.1]
        exact ih (u / 10) (by omega) x y hd (by omega)
theorem dec_small (u : Nat) (h : u < 10) : Lib.decDigits u = [UInt8.ofNat (48 + u)] := by rw [Lib.decDigits, dif_pos h]
theorem lead_of_dec (l : List UInt8) (h : Lib.decDigits (valL l) = l) : leadOk l = true := by
  cases l with
  | nil => rfl
  | cons c r =>
    cases r with
    | nil => rfl
    | cons y r =>
      by_cases h10 : valL (c :: y :: r) < 10
      · rw [dec_small _ h10] at h; simp at h
      · have := dec_pos_head _ c (y :: r) h (by omega)
        simp [leadOk, this]
theorem val_ge_len : ∀ (r : List UInt8) (n : Nat), 0 < n → 10 ^ r.length * n ≤ r.foldl (fun n c => 10 * n + dv c) n
  | [], n, _ => by simp
  | c :: r, n, h => by
    have := val_ge_len r (10 * n + dv c) (by omega)
    simp only [List.foldl_cons, List.length_cons, Nat.pow_succ]
    refine Nat.le_trans ?_ this
    rw [Nat.mul_assoc]
    exact Nat.mul_le_mul_left _ (by omega)
theorem numOk_long (l : List UInt8) (h : 15 < l.length) : numOk l = false := by
  unfold numOk
  cases hd : l.all digB with
  | false => rfl
  | true =>
    cases hl : leadOk l with
    | false => rfl
    | true =>
      simp only [Bool.true_and, decide_eq_false_iff_not]
      cases l with
      | nil => simp at h
      | cons c r =>
        cases r with
        | nil => simp at h
        | cons y r =>
          have hc : c ≠ 48 := by simpa [leadOk] using hl
          have hcd := dig_range c (by simp at hd; exact hd.1)
          have hc1 : 0 < 10 * 0 + dv c := by
            have : c.toNat ≠ 48 := fun e => hc (UInt8.toNat_inj.1 (by rw [e]; rfl))
            unfold dv; omega
          have := val_ge_len (y :: r) (10 * 0 + dv c) hc1
          have hlen : 15 ≤ (y :: r).length := by simp at h ⊢; omega
          have hp : 10 ^ 15 ≤ 10 ^ (y :: r).length := Nat.pow_le_pow_right (by omega) hlen
          have hm : 10 ^ (y :: r).length * 1 ≤ 10 ^ (y :: r).length * (10 * 0 + dv c) := Nat.mul_le_mul_left _ hc1
          have e : valL (c :: y :: r) = (y :: r).foldl (fun n c => 10 * n + dv c) (10 * 0 + dv c) := rfl
          rw [e]
          have h15 : (10 : Nat) ^ 15 = 1000000000000000 := rfl
          omega
theorem numOk_digits (l : List UInt8) (hne : l ≠ []) (hd : l.all digB = true) : numOk l = (decide (valL l ≤ 1099511627775) && decide (Lib.decDigits (valL l) = l)) := by
  unfold numOk
  rw [hd, Bool.true_and]
  cases hl : leadOk l with
  | true => rw [(dec_val _ l rfl hne hd hl).1]; simp
  | false =>
    have : ¬ Lib.decDigits (valL l) = l := fun e => by rw [lead_of_dec l e] at hl; cases hl
    simp [this]
theorem numOk_nondigit (l : List UInt8) (hd : l.all digB = false) : numOk l = false := by unfold numOk; rw [hd]; rfl
theorem valL_bound : ∀ (l : List UInt8), l.all digB = true → valL l < 10 ^ l.length := by
  have key : ∀ (l : List UInt8) (n : Nat), l.all digB = true → l.foldl (fun n c => 10 * n + dv c) n < 10 ^ l.length * (n + 1) := by
    intro l
    induction l with
    | nil => intro n _; simp
    | cons c l ih =>
      intro n h
      simp only [List.all_cons, Bool.and_eq_true] at h
      have hc := dig_range c h.1
      have := ih (10 * n + dv c) h.2
      simp only [List.foldl_cons, List.length_cons, Nat.pow_succ]
      refine Nat.lt_of_lt_of_le this ?_
      rw [Nat.mul_assoc]
      exact Nat.mul_le_mul_left _ (by unfold dv; omega)
  intro l h
  have := key l 0 h
  simpa [valL] using this
theorem indexByte_sign (c : UInt8) : decide (0 ≤ Lib.indexByte signs c) = signB c := by
  cases h : signB c with
  | true =>
    unfold signB at h
    rw [List.contains_iff_mem] at h
    obtain ⟨k, hk, e⟩ := List.getElem_of_mem h
    have hge := Lib.indexByte_ge signs c
    rw [decide_eq_true_iff]
    by_cases hm : Lib.indexByte signs c = -1
    · exact absurd (by rw [List.getElem?_eq_getElem hk, e]) (Lib.indexByte_none hm k)
    · omega
  | false =>
    rw [decide_eq_false_iff_not]
    intro hge
    obtain ⟨o, ho⟩ := Int.eq_ofNat_of_zero_le hge
    have := (Lib.indexByte_some ho).1
    have hm : c ∈ signs := List.mem_of_getElem? this
    unfold signB at h
    rw [← List.contains_iff_mem] at hm
    rw [hm] at h
    cases h

theorem cons_of (s : ByteArray) (h : 0 < s.size) : ∃ r, s.data.toList = s[0] :: r ∧ r.length = s.size - 1 := by
  have := take_snoc s 0 h
  have hl := len_toList s
  cases hl' : s.data.toList with
  | nil => rw [hl'] at hl; simp at hl; omega
  | cons c r => rw [hl'] at this hl; simp at this hl; exact ⟨r, by rw [this], by omega⟩
theorem lead_bad (s : ByteArray) (h : 1 < s.size) (h0 : s[0] = 48) : leadOk s.data.toList = false := by
  obtain ⟨r, e, hr⟩ := cons_of s (by omega)
  rw [e, h0]
  cases r with
  | nil => simp at hr; omega
  | cons y r => rfl
theorem lead_good (s : ByteArray) (h : ∀ h1 : 1 < s.size, s[0] ≠ 48) : leadOk s.data.toList = true := by
  by_cases h0 : s.size = 0
  · have : s.data.toList = [] := List.eq_nil_of_length_eq_zero (by rw [len_toList]; exact h0)
    rw [this]; rfl
  obtain ⟨r, e, hr⟩ := cons_of s (by omega)
  rw [e]
  cases r with
  | nil => rfl
  | cons y r => simp at hr; simpa [leadOk] using h (by omega)
theorem val_take_snoc (s : ByteArray) (k : Nat) (h : k < s.size) : valL (s.data.toList.take (k + 1)) = 10 * valL (s.data.toList.take k) + dv s[k] := by
  rw [take_snoc s k h, valL_snoc]
theorem val_take_le (s : ByteArray) (k : Nat) : valL (s.data.toList.take k) ≤ valL s.data.toList := by
  have := valL_append_ge (s.data.toList.take k) (s.data.toList.drop k)
  rwa [List.take_append_drop] at this
theorem numOk_big (s : ByteArray) (k : Nat) (h : 1099511627775 < valL (s.data.toList.take k)) : numOk s.data.toList = false := by
  have := val_take_le s k
  unfold numOk
  rw [show decide (valL s.data.toList ≤ 1099511627775) = false from by simp; omega]; simp
theorem numOk_lead (l : List UInt8) (h : leadOk l = false) : numOk l = false := by unfold numOk; rw [h]; simp
theorem signL_one (s : ByteArray) (h : s.size = 1) : signL s.data.toList = signB s[0] := by
  obtain ⟨r, e, hr⟩ := cons_of s (by omega)
  have : r = [] := List.eq_nil_of_length_eq_zero (by omega)
  rw [e, this]; rfl
theorem signL_other (s : ByteArray) (h : s.size ≠ 1) : signL s.data.toList = false := by
  have hl := len_toList s
  cases e : s.data.toList with
  | nil => rfl
  | cons c r =>
    cases r with
    | nil => rw [e] at hl; simp at hl; omega
    | cons y r => rfl

theorem dec_len_le (n : Nat) : (Lib.decDigits n).length ≤ n + 1 := by
  induction n using Nat.strongRecOn with
  | _ n ih =>
    by_cases h : n < 10
    · rw [dec_small n h]; simp
    · rw [Lib.decDigits, dif_neg h, List.length_append]
      have := ih (n / 10) (by omega)
      simp only [List.length_cons, List.length_nil]
      omega
/- a number of a token has at most thirteen digits -/
theorem dec_len_tok : ∀ (k n : Nat), n < 10 ^ (k + 1) → (Lib.decDigits n).length ≤ k + 1
  | 0, n, h => by rw [dec_small n (by simpa using h)]; simp
  | k + 1, n, h => by
    by_cases h1 : n < 10
    · rw [dec_small n h1]; simp
    · rw [Lib.decDigits, dif_neg h1, List.length_append]
      have := dec_len_tok k (n / 10) (by rw [Nat.pow_succ] at h; omega)
      simp only [List.length_cons, List.length_nil]
      omega

end Lx
end Go.Proofs.YtcekpobmbmnplaaGreatDoor

namespace Go.Proofs.YtcekpobmbmnplaaGreatDoor
open Go.RowKit

theorem byte_back (c : UInt8) : ((c.toNat : Int)).toNat.toUInt8 = c := by simp
set_option maxRecDepth 100000 in
set_option maxHeartbeats 400000 in
theorem isSign_any (s : ByteArray) (w : World) :
    Calls Tryz.prog 104 #[.string s] w fun e w' => e = .returned (.bool (Lx.signL s.data.toList)) ∧ w' = w := by
  by_cases h1 : s.size = 1
  · have h0 : 0 < s.size := by omega
    have HN : Hid (Lx.signL s.data.toList = decide (0 ≤ Lib.indexByte signsBA.data.toList s[0])) := by
      have := Lx.indexByte_sign s[0]
      exact (Lx.signL_one s h1).trans this.symm
    have hlen : ((s.size : Int) == 1) = true := by rw [beq_iff_eq]; omega
    clear h1
    go_enter Tryz.func104, Tryz.ntmps104
    go_wp2_with (go_at_call 126; refine (Tryz.strings_IndexByte signsBA _ _).mono ?_; rintro e w' ⟨rfl, rfl⟩)
    all_goals go_ret
    all_goals exact ⟨ret_bool (by rw [HN.out]; simp), rfl⟩
  · have HN : Hid (Lx.signL s.data.toList = false) := Lx.signL_other s h1
    have hlen : ((s.size : Int) == 1) = false := by rw [beq_eq_false_iff_ne]; omega
    clear h1
    go_enter Tryz.func104, Tryz.ntmps104
    go_wp2_with fail
    go_ret
    exact ⟨ret_bool HN.out.symm, rfl⟩

def errPanic : List PanicEntry := [{ v := .iface 29 (.int .i64 1), recovered := false }]
def numEnd (l : List UInt8) : Ending := if Lx.numOk l then .returned (.int .i64 (Lx.valL l)) else .panicked errPanic
theorem numEnd_yes {l : List UInt8} (h : Lx.numOk l = true) : numEnd l = .returned (.int .i64 (Lx.valL l)) := by unfold numEnd; rw [h]; rfl
theorem numEnd_no {l : List UInt8} (h : Lx.numOk l = false) : numEnd l = .panicked errPanic := by unfold numEnd; rw [h]; rfl

set_option maxRecDepth 100000 in
set_option maxHeartbeats 400000 in
theorem number_any (s : ByteArray) (w : World) (hs : s.size ≤ maxLen) :
    Calls Tryz.prog 106 #[.string s] w fun e w' => e = numEnd s.data.toList ∧ w' = w := by
  unfold maxLen at hs
  by_cases hlead : ∃ h : 1 < s.size, s[0] = 48
  · obtain ⟨h1, h0⟩ := hlead
    have HN : Hid (numEnd s.data.toList = .panicked errPanic) := numEnd_no (Lx.numOk_lead _ (Lx.lead_bad s h1 h0))
    have hb : (((s[0].toNat : Nat) : Int) == 48) = true := by rw [h0]; rfl
    clear h0
    go_enter Tryz.func106, Tryz.ntmps106
    go_wp2_with fail
    exact ⟨rfl, HN.out.symm, rfl⟩
  · have HL : Hid (Lx.leadOk s.data.toList = true) := Lx.lead_good s (fun h1 h0 => hlead ⟨h1, h0⟩)
    have hpart : (¬ 1 < s.size) ∨ ∃ h : 1 < s.size, (((s[0].toNat : Nat) : Int) == 48) = false := by
      by_cases h1 : 1 < s.size
      · refine Or.inr ⟨h1, ?_⟩
        rw [beq_eq_false_iff_ne]
        intro e
        exact hlead ⟨h1, UInt8.toNat_inj.1 (by show s[0].toNat = 48; omega)⟩
      · exact Or.inl h1
    clear hlead
    rcases hpart with h1 | ⟨h1, hb⟩
    all_goals
      go_enter Tryz.func106, Tryz.ntmps106
      go_wp2_with fail
      go_loop [16, 3, 4] (fun i n _ => ∃ k : Nat, k ≤ s.size ∧ i = .int .i64 k ∧ n = .int .i64 (Lx.valL (s.data.toList.take k)) ∧ (s.data.toList.take k).all Lx.digB = true ∧ Lx.valL (s.data.toList.take k) ≤ 1099511627775) (fun i _ _ => s.size - (intOf i).toNat)
      case atStart => exact ⟨0, Nat.zero_le _, rfl, rfl, rfl, by simp [Lx.valL]⟩
      case round =>
        obtain ⟨k, hk, rfl, rfl, hall, hv⟩ := hrel
        have HA : Hid ((s.data.toList.take k).all Lx.digB = true) := hall
        clear hall
        by_cases hlt : k < s.size
        · by_cases hd : Lx.digB s[k] = true
          · have HS : Hid ((s.data.toList.take (k + 1)).all Lx.digB = ((s.data.toList.take k).all Lx.digB && Lx.digB s[k])) := Lx.all_take_snoc s k hlt Lx.digB
            have HV : Hid (Lx.valL (s.data.toList.take (k + 1)) = 10 * Lx.valL (s.data.toList.take k) + Lx.dv s[k]) := Lx.val_take_snoc s k hlt
            have hr := Lx.dig_range _ hd
            have HB : Hid (Lx.valL (s.data.toList.take (k + 1)) ≤ 1099511627775 ∨ Lx.numOk s.data.toList = false) := by
              by_cases hm : Lx.valL (s.data.toList.take (k + 1)) ≤ 1099511627775
              · exact Or.inl hm
              · exact Or.inr (Lx.numOk_big s (k + 1) (by omega))
            generalize hV : Lx.valL (s.data.toList.take k) = V at *
            have HVV : Hid (Lx.valL (s.data.toList.take k) = V) := hV
            clear hV
            obtain ⟨hr0, hr1⟩ := hr
            go_wp2_with (go_at_call 103; refine (isDigit_any _ _).mono ?_; rintro e w' ⟨rfl, rfl⟩)
            · have hN : Lx.numOk s.data.toList = false := by
                rcases HB.out with h | h
                · rw [HV.out] at h; unfold Lx.dv at h; omega
                · exact h
              exact ⟨rfl, (numEnd_no hN).symm, rfl⟩
            · go_round
              case rel => exact ⟨k + 1, by omega, by go_num, by rw [HV.out]; unfold Lx.dv; go_num, by rw [HS.out, HA.out]; simp [hd], by rw [HV.out]; unfold Lx.dv; omega⟩
              case measure => simp [intOf]; omega
          · have hd' : Lx.digB s[k] = false := by simpa using hd
            clear hd
            have HN : Hid (numEnd s.data.toList = .panicked errPanic) := numEnd_no (Lx.numOk_nondigit _ (Lx.not_all s k hlt _ hd'))
            go_wp2_with (go_at_call 103; refine (isDigit_any _ _).mono ?_; rintro e w' ⟨rfl, rfl⟩)
            exact ⟨rfl, HN.out.symm, rfl⟩
        · obtain rfl : k = s.size := by omega
          have HN : Hid (numEnd s.data.toList = .returned (.int .i64 (Lx.valL (s.data.toList.take s.size)))) := by
            have hT : s.data.toList.take s.size = s.data.toList := List.take_of_length_le (by rw [Lx.len_toList]; exact Nat.le_refl _)
            rw [hT] at HA hv ⊢
            exact numEnd_yes (by unfold Lx.numOk; rw [HA.out, HL.out]; simp; exact hv)
          go_wp2_with fail
          go_ret
          exact ⟨HN.out.symm, rfl⟩

def strOf (l : List UInt8) : ByteArray := ⟨l.toArray⟩
theorem ret_str {a b : ByteArray} (h : a = b) : Ending.returned (.string a) = .returned (.string b) := by rw [h]
theorem strOf_list (l : List UInt8) : (strOf l).data.toList = l := by simp [strOf]
theorem strOf_back (s : ByteArray) : strOf s.data.toList = s := by simp [strOf]
theorem strOf_size (l : List UInt8) : (strOf l).size = l.length := by simp [strOf, ByteArray.size]
theorem strOf_append (a b : List UInt8) : strOf a ++ strOf b = strOf (a ++ b) := by
  apply ByteArray.ext
  simp [strOf]

def digL (n : Nat) : List UInt8 := [UInt8.ofNat (48 + n % 10)]
set_option maxRecDepth 100000 in
set_option maxHeartbeats 400000 in
theorem Digits_any (n : Nat) : ∀ (w : World), n < 9223372036854775807 →
    Calls Tryz.prog 91 #[.int .i64 n] w fun e w' => e = .returned (.string (strOf (Lib.decDigits n))) ∧ Below w.heap.size w w' := by
  induction n using Nat.strongRecOn with
  | _ n ih =>
    intro w hn
    have IH : Hid (n / 10 < n → ∀ (w : World), n / 10 < 9223372036854775807 → Calls Tryz.prog 91 #[.int .i64 ((n / 10 : Nat) : Int)] w fun e w' => e = .returned (.string (strOf (Lib.decDigits (n / 10)))) ∧ Below w.heap.size w w') := ih (n / 10)
    clear ih
    have HD : Hid (Lib.decDigits n = if n < 10 then digL n else Lib.decDigits (n / 10) ++ digL n) := by
      show Lib.decDigits n = _
      rw [Lib.decDigits]
      split
      · unfold digL; rw [Nat.mod_eq_of_lt (by omega)]
      · rfl
    have hcv : (convert 64 9 (.slice (some ⟨w.heap.size, 0, none⟩) 1 1)).run Tryz.prog (w.alloc (.cells #[.int .u8 (48 + (n : Int) % 10)] 5)) = .ok (.string (strOf (digL n))) (w.alloc (.cells #[.int .u8 (48 + (n : Int) % 10)] 5)) := by
      refine run_convert_bytes_back (P := Tryz.prog) _ 64 9 5 ⟨w.heap.size, 0, none⟩ 1 [UInt8.ofNat (48 + n % 10)] Tryz.underlying64 Tryz.underlying5 Tryz.underlying9 ?_
      intro j hj
      simp only [List.length_cons, List.length_nil, Nat.zero_add, Nat.lt_one_iff] at hj
      subst hj
      have e : ((UInt8.ofNat (48 + n % 10)).toNat : Int) = 48 + (n : Int) % 10 := by rw [UInt8.toNat_ofNat']; omega
      simp only [List.getElem_cons_zero, e]
      simp [go_sem]
    by_cases h10 : n < 10
    · go_enter Tryz.func91, Tryz.ntmps91
      go_wp2_with fail
      go_ret
      exact ⟨ret_str (by rw [HD.out, if_pos h10]), (Below.refl _ _).alloc (Nat.le_refl _) _⟩
    · go_enter Tryz.func91, Tryz.ntmps91
      go_wp2_with fail
      have e10 : ((n : Int) / 10) = ((n / 10 : Nat) : Int) := by omega
      rw [e10]
      clear e10
      refine (IH.out (by omega) _ (by omega)).mono ?_
      rintro e w' ⟨rfl, hb⟩
      have hsz : (strOf (Lib.decDigits (n / 10))).size + (strOf (digL n)).size ≤ 9223372036854775807 := by
        have := Lx.dec_len_le (n / 10)
        rw [strOf_size, strOf_size]
        simp only [digL, List.length_cons, List.length_nil]
        omega
      go_wp2_with fail
      go_ret
      refine ⟨ret_str (by rw [HD.out, if_neg h10, ← strOf_append]), ?_⟩
      exact ((Below.refl _ _).alloc (Nat.le_refl _) _).trans (hb.mono (by simp))

end Go.Proofs.YtcekpobmbmnplaaGreatDoor

namespace Go.Proofs.YtcekpobmbmnplaaGreatDoor
open Go.RowKit

theorem ret_ib {a b : Int} {x y : Bool} (h1 : a = b) (h2 : x = y) : Ending.returned (.tuple #[.int .i64 a, .bool x]) = .returned (.tuple #[.int .i64 b, .bool y]) := by rw [h1, h2]
theorem beq_eq_decide (a b : List UInt8) : (a == b) = decide (a = b) := by
  rw [Bool.eq_iff_iff]; simp
set_option maxRecDepth 100000 in
set_option maxHeartbeats 400000 in
theorem numberOf_any (s : ByteArray) (w : World) (h0 : 0 < s.size) (hs : s.size ≤ maxLen) :
    Calls Tryz.prog 50 #[.string s] w fun e w' => ∃ k : Int, e = .returned (.tuple #[.int .i64 k, .bool (Lx.numOk s.data.toList)]) ∧ (Lx.numOk s.data.toList = true → k = Lx.valL s.data.toList) ∧ Below w.heap.size w w' := by
  unfold maxLen at hs
  by_cases h15 : 15 < s.size
  · have HN : Hid (Lx.numOk s.data.toList = false) := Lx.numOk_long _ (by rw [Lx.len_toList]; exact h15)
    go_enter Tryz.func50, Tryz.ntmps50
    go_wp2_with fail
    go_ret2
    exact ⟨0, by rw [HN.out]; rfl, (fun h => by rw [HN.out] at h; cases h), Below.refl _ _⟩
  · go_enter Tryz.func50, Tryz.ntmps50
    go_wp2_with fail
    go_loop [5, 4] (fun i n => ∃ k : Nat, k ≤ s.size ∧ i = .int .i64 k ∧ n = .int .i64 (Lx.valL (s.data.toList.take k)) ∧ (s.data.toList.take k).all Lx.digB = true ∧ Lx.valL (s.data.toList.take k) < 1000000000000000) (fun i _ => s.size - (intOf i).toNat)
    case atStart => exact ⟨0, Nat.zero_le _, rfl, rfl, rfl, by simp [Lx.valL]⟩
    case round =>
      obtain ⟨k, hk, rfl, rfl, hall, hv⟩ := hrel
      have HA : Hid ((s.data.toList.take k).all Lx.digB = true) := hall
      clear hall
      by_cases hlt : k < s.size
      · by_cases hd : Lx.digB s[k] = true
        · have HS : Hid ((s.data.toList.take (k + 1)).all Lx.digB = ((s.data.toList.take k).all Lx.digB && Lx.digB s[k])) := Lx.all_take_snoc s k hlt Lx.digB
          have HV : Hid (Lx.valL (s.data.toList.take (k + 1)) = 10 * Lx.valL (s.data.toList.take k) + Lx.dv s[k]) := Lx.val_take_snoc s k hlt
          have HB : Hid (Lx.valL (s.data.toList.take (k + 1)) < 1000000000000000) := by
            have hb := Lx.valL_bound (s.data.toList.take (k + 1)) (by rw [HS.out, HA.out, hd]; rfl)
            have hl : (s.data.toList.take (k + 1)).length ≤ 15 := by rw [List.length_take]; omega
            have hp : 10 ^ (s.data.toList.take (k + 1)).length ≤ 10 ^ 15 := Nat.pow_le_pow_right (by omega) hl
            have e15 : (10 : Nat) ^ 15 = 1000000000000000 := rfl
            show _ < _
            omega
          obtain ⟨hr0, hr1⟩ := Lx.dig_range _ hd
          generalize hV : Lx.valL (s.data.toList.take k) = V at *
          have HVV : Hid (Lx.valL (s.data.toList.take k) = V) := hV
          clear hV
          go_wp2_with (go_at_call 90; refine (digit_any _ _).mono ?_; rintro e w' ⟨rfl, rfl⟩)
          go_round
          case rel => exact ⟨k + 1, by omega, by go_num, by rw [HV.out]; unfold Lx.dv; go_num, by rw [HS.out, HA.out]; simp [hd], HB.out⟩
          case measure => simp [intOf]; omega
        · have hd' : Lx.digB s[k] = false := by simpa using hd
          clear hd
          have HN : Hid (Lx.numOk s.data.toList = false) := Lx.numOk_nondigit _ (Lx.not_all s k hlt _ hd')
          go_wp2_with (go_at_call 90; refine (digit_any _ _).mono ?_; rintro e w' ⟨rfl, rfl⟩)
          go_ret2
          exact ⟨0, by rw [HN.out]; rfl, (fun h => by rw [HN.out] at h; cases h), Below.refl _ _⟩
      · obtain rfl : k = s.size := by omega
        have hT : s.data.toList.take s.size = s.data.toList := List.take_of_length_le (by rw [Lx.len_toList]; exact Nat.le_refl _)
        rw [hT] at HA hv ⊢
        clear hT
        have HN : Hid (Lx.numOk s.data.toList = (decide (Lx.valL s.data.toList ≤ 1099511627775) && decide (Lib.decDigits (Lx.valL s.data.toList) = s.data.toList))) :=
          Lx.numOk_digits _ (fun e => by have := Lx.len_toList s; rw [e] at this; simp at this; omega) HA.out
        generalize hV : Lx.valL s.data.toList = V at *
        have HVV : Hid (Lx.valL s.data.toList = V) := hV
        clear hV
        by_cases hm : V ≤ 1099511627775
        · go_wp2_with fail
          refine (Digits_any V _ (by omega)).mono ?_
          rintro e w' ⟨rfl, hb⟩
          go_wp2_with fail
          go_ret2
          refine ⟨V, ret_ib rfl ?_, fun _ => by rw [HVV.out], hb⟩
          rw [HN.out, Lib.toList_data, Lib.toList_data, strOf_list, decide_eq_true hm, Bool.true_and]
          exact beq_eq_decide _ _
        · go_wp2_with fail
          go_ret2
          exact ⟨V, by rw [HN.out]; simp; omega, fun _ => by rw [HVV.out], Below.refl _ _⟩

/- A token as the program holds it. -/
structure Tk where
  kind : Int
  n : Int
  text : ByteArray
def Tk.val (t : Tk) : Value := .agg #[.int .i64 t.kind, .int .i64 t.n, .string t.text]
def tokOf (s : ByteArray) : Option Tk :=
  if Lx.signL s.data.toList then some ⟨3, 0, s⟩ else if Lx.nameB s.data.toList then some ⟨1, 0, s⟩ else if Lx.numOk s.data.toList then some ⟨2, Lx.valL s.data.toList, ⟨#[]⟩⟩ else none

set_option maxRecDepth 100000 in
set_option maxHeartbeats 400000 in
theorem Clone_any (s : ByteArray) (w : World) (hs : s.size ≤ 281474976710656) :
    Calls Tryz.prog 66 #[.string s] w fun e w' => e = .returned (.string s) ∧ Below w.heap.size w w' := by
  go_enter Tryz.func66, Tryz.ntmps66
  go_wp2_with (go_at_call 107; refine (Tryz.stringslite_Clone s _ hs).mono ?_; rintro e w' ⟨rfl, hb⟩)
  go_ret
  exact ⟨rfl, hb⟩

set_option maxRecDepth 100000 in
set_option maxHeartbeats 400000 in
theorem token_any (s : ByteArray) (w : World) (hs : s.size ≤ maxLen) :
    Calls Tryz.prog 65 #[.string s] w fun e w' => ((∃ t, tokOf s = some t ∧ e = .returned t.val) ∨ (tokOf s = none ∧ e = .panicked errPanic)) ∧ Below w.heap.size w w' := by
  by_cases h1 : Lx.signL s.data.toList = true
  · have HT : Hid (tokOf s = some ⟨3, 0, s⟩) := by show tokOf s = _; unfold tokOf; rw [if_pos h1]
    go_enter Tryz.func65, Tryz.ntmps65
    go_wp2_with (go_at_call 104; refine (isSign_any s _).mono ?_; rintro e w' ⟨rfl, rfl⟩)
    exact bodyPost_ret (v := Tk.val ⟨3, 0, s⟩) (by simp [results, Tryz.results65, go_sem, Tk.val]) rfl ⟨Or.inl ⟨_, HT.out, rfl⟩, (Below.refl _ _).alloc (Nat.le_refl _) _⟩
  · have h1' : Lx.signL s.data.toList = false := by simpa using h1
    clear h1
    by_cases h2 : Lx.nameB s.data.toList = true
    · have HT : Hid (tokOf s = some ⟨1, 0, s⟩) := by show tokOf s = _; unfold tokOf; rw [if_neg (by simp [h1']), if_pos h2]
      go_enter Tryz.func65, Tryz.ntmps65
      go_wp2_with (first | (go_at_call 104; refine (isSign_any s _).mono ?_; rintro e w' ⟨rfl, rfl⟩) | (go_at_call 105; refine (isName_any s _ hs).mono ?_; rintro e w' ⟨rfl, rfl⟩))
      exact bodyPost_ret (v := Tk.val ⟨1, 0, s⟩) (by simp [results, Tryz.results65, go_sem, Tk.val]) rfl ⟨Or.inl ⟨_, HT.out, rfl⟩, (Below.refl _ _).alloc (Nat.le_refl _) _⟩
    · have h2' : Lx.nameB s.data.toList = false := by simpa using h2
      clear h2
      by_cases h3 : Lx.numOk s.data.toList = true
      · have HT : Hid (tokOf s = some ⟨2, Lx.valL s.data.toList, ⟨#[]⟩⟩) := by show tokOf s = _; unfold tokOf; rw [if_neg (by simp [h1']), if_neg (by simp [h2']), if_pos h3]
        have hN := numEnd_yes h3
        have HC : Hid (∀ w : World, Calls Tryz.prog 106 #[.string s] w fun e w' => e = .returned (.int .i64 (Lx.valL s.data.toList)) ∧ w' = w) := fun w => by rw [← hN]; exact number_any s w hs
        clear hN h3
        go_enter Tryz.func65, Tryz.ntmps65
        go_wp2_with (first | (go_at_call 104; refine (isSign_any s _).mono ?_; rintro e w' ⟨rfl, rfl⟩) | (go_at_call 105; refine (isName_any s _ hs).mono ?_; rintro e w' ⟨rfl, rfl⟩) | (go_at_call 106; refine (HC.out _).mono ?_; rintro e w' ⟨rfl, rfl⟩))
        exact bodyPost_ret (v := Tk.val ⟨2, Lx.valL s.data.toList, ⟨#[]⟩⟩) (by simp [results, Tryz.results65, go_sem, Tk.val]) rfl ⟨Or.inl ⟨_, HT.out, rfl⟩, (Below.refl _ _).alloc (Nat.le_refl _) _⟩
      · have h3' : Lx.numOk s.data.toList = false := by simpa using h3
        have HT : Hid (tokOf s = none) := by show tokOf s = _; unfold tokOf; rw [if_neg (by simp [h1']), if_neg (by simp [h2']), if_neg h3]
        have hN := numEnd_no h3'
        have HC : Hid (∀ w : World, Calls Tryz.prog 106 #[.string s] w fun e w' => e = .panicked errPanic ∧ w' = w) := fun w => by rw [← hN]; exact number_any s w hs
        clear hN h3 h3'
        go_enter Tryz.func65, Tryz.ntmps65
        go_wp2_with (first | (go_at_call 104; refine (isSign_any s _).mono ?_; rintro e w' ⟨rfl, rfl⟩) | (go_at_call 105; refine (isName_any s _ hs).mono ?_; rintro e w' ⟨rfl, rfl⟩) | (go_at_call 106; refine (HC.out _).mono ?_; rintro e w' ⟨rfl, rfl⟩))
        exact ⟨rfl, Or.inr ⟨HT.out, rfl⟩, (Below.refl _ _).alloc (Nat.le_refl _) _⟩

/- The library's table of powers of ten, as it is laid when the program begins. -/
def Tab (w : World) : Prop := Lib.TabIs Tryz.prog w "internal/strconv.uint64pow10" .u64 Lib.pow10Tab ∧ 0 < w.heap.size
theorem pow10_at : Tryz.prog.globalNamed "internal/strconv.uint64pow10" = some 0 := by kernel_rfl
theorem Tab.below {B : Nat} {w w' : World} (h : Tab w) (hB : 0 < B) (hb : Below B w w') : Tab w' :=
  ⟨var?_below hb pow10_at hB h.1, Nat.lt_of_lt_of_le h.2 hb.size⟩
theorem Tab.later {w w' : World} (h : Tab w) (hb : Below w.heap.size w w') : Tab w' := h.below h.2 hb

def Tk.txt (t : Tk) : ByteArray := if t.kind = 2 then strOf (Lib.decDigits t.n.toNat) else t.text
def Tk.inB (t : Tk) : Prop := t.kind = 2 → 0 ≤ t.n ∧ t.n ≤ 1099511627775

set_option maxRecDepth 100000 in
set_option maxHeartbeats 400000 in
theorem TokText_any (t : Tk) (w : World) (ht : t.inB) :
    Calls Tryz.prog 97 #[t.val] w fun e w' => e = .returned (.string t.txt) ∧ Below w.heap.size w w' := by
  obtain ⟨K, N, S⟩ := t
  simp only [Tk.val]
  by_cases hk : K = 2
  · obtain ⟨h0, h1⟩ : 0 ≤ N ∧ N ≤ 1099511627775 := ht hk
    have HT : Hid (Tk.txt ⟨K, N, S⟩ = strOf (Lib.decDigits N.toNat)) := if_pos hk
    have hkb : (K == 2) = true := beq_iff_eq.2 hk
    clear hk ht
    obtain ⟨n, rfl⟩ := Int.eq_ofNat_of_zero_le h0
    rw [Int.toNat_natCast] at HT
    go_enter Tryz.func97, Tryz.ntmps97
    go_wp2_with (go_at_call 91; refine (Digits_any n _ (by omega)).mono ?_; rintro e w' ⟨rfl, hb⟩)
    go_ret
    exact ⟨ret_str HT.out.symm, ((Below.refl _ _).alloc (Nat.le_refl _) _).trans (hb.mono (by simp))⟩
  · have HT : Hid (Tk.txt ⟨K, N, S⟩ = S) := if_neg hk
    have hkb : (K == 2) = false := beq_eq_false_iff_ne.2 hk
    clear hk ht
    go_enter Tryz.func97, Tryz.ntmps97
    go_wp2_with fail
    go_ret
    exact ⟨ret_str HT.out.symm, (Below.refl _ _).alloc (Nat.le_refl _) _⟩

set_option maxRecDepth 100000 in
set_option maxHeartbeats 400000 in
theorem tokenText_any (t : Tk) (w : World) (ht : t.inB) (hT : Tab w) :
    Calls Tryz.prog 34 #[t.val] w fun e w' => e = .returned (.string t.txt) ∧ Below w.heap.size w w' := by
  obtain ⟨K, N, S⟩ := t
  simp only [Tk.val]
  by_cases hk : K = 2
  · obtain ⟨h0, h1⟩ : 0 ≤ N ∧ N ≤ 1099511627775 := ht hk
    have HT : Hid (Tk.txt ⟨K, N, S⟩ = strOf (Lib.decDigits N.toNat)) := if_pos hk
    have hkb : (K == 2) = true := beq_iff_eq.2 hk
    clear hk ht
    obtain ⟨n, rfl⟩ := Int.eq_ofNat_of_zero_le h0
    rw [Int.toNat_natCast] at HT
    have hC : ∀ w : World, Tab w → Calls Tryz.prog 69 #[.int .i64 n] w fun e w' => e = .returned (.string (strOf (Lib.decDigits n))) ∧ Below w.heap.size w w' := fun w hT => by
      refine (Tryz.strconv_Itoa n (by omega) (by omega) w hT.1).mono ?_
      rintro e w' ⟨rfl, k, os, rfl⟩
      rw [Lib.itoa_nonneg]
      exact ⟨rfl, ⟨rfl, rfl, rfl, by simp [Sort.grow, World.drewN], fun j hj => by simp [Sort.grow, World.drewN, Array.getElem?_append_left hj]⟩⟩
    have HC : Hid (∀ w : World, Tab w → Calls Tryz.prog 69 #[.int .i64 n] w fun e w' => e = .returned (.string (strOf (Lib.decDigits n))) ∧ Below w.heap.size w w') := hC
    clear hC
    go_enter Tryz.func34, Tryz.ntmps34
    go_wp2_with fail
    refine (HC.out _ ?_).mono ?_
    · exact hT.later ((Below.refl _ _).alloc (Nat.le_refl _) _)
    rintro e w' ⟨rfl, hb⟩
    go_wp2_with fail
    go_ret
    exact ⟨ret_str HT.out.symm, ((Below.refl _ _).alloc (Nat.le_refl _) _).trans (hb.mono (by simp))⟩
  · have HT : Hid (Tk.txt ⟨K, N, S⟩ = S) := if_neg hk
    have hkb : (K == 2) = false := beq_eq_false_iff_ne.2 hk
    clear hk ht
    go_enter Tryz.func34, Tryz.ntmps34
    go_wp2_with fail
    go_ret
    exact ⟨ret_str HT.out.symm, (Below.refl _ _).alloc (Nat.le_refl _) _⟩

end Go.Proofs.YtcekpobmbmnplaaGreatDoor

namespace Go.Proofs.YtcekpobmbmnplaaGreatDoor
open Go.RowKit

def Tk.okB (t : Tk) : Bool :=
  if t.kind = 1 then decide (t.n = 0) && Lx.nameB t.text.data.toList
  else if t.kind = 2 then t.text.toList.isEmpty && (decide (0 ≤ t.n) && decide (t.n ≤ 1099511627775))
  else decide (t.n = 0) && Lx.signL t.text.data.toList
theorem isEmpty_false {s : ByteArray} (h : ¬ s.toList.isEmpty = true) : 0 < s.size := by
  rcases Nat.eq_zero_or_pos s.size with h0 | h0
  · have : s.data.toList = [] := List.eq_nil_of_length_eq_zero (by rw [Lx.len_toList]; exact h0)
    rw [Lib.toList_data, this] at h; simp at h
  · exact h0

set_option maxRecDepth 100000 in
set_option maxHeartbeats 800000 in
theorem isToken_any (t : Tk) (w : World) (hs : t.text.size ≤ maxLen) :
    Calls Tryz.prog 67 #[t.val] w fun e w' => e = .returned (.bool t.okB) ∧ Below w.heap.size w w' := by
  obtain ⟨K, N, S⟩ := t
  simp only [Tk.val] at *
  by_cases k1 : K = 1
  · have HT : Hid (Tk.okB ⟨K, N, S⟩ = (decide (N = 0) && Lx.nameB S.data.toList)) := if_pos k1
    have hkb : (K == 1) = true := beq_iff_eq.2 k1
    clear k1
    by_cases n0 : N = 0
    · have hnb : (N == 0) = true := beq_iff_eq.2 n0
      have HR : Hid (Tk.okB ⟨K, N, S⟩ = Lx.nameB S.data.toList) := by show Tk.okB _ = _; rw [HT.out, decide_eq_true n0, Bool.true_and]
      clear n0
      go_enter Tryz.func67, Tryz.ntmps67
      go_wp2_with (go_at_call 105; refine (isName_any S _ hs).mono ?_; rintro e w' ⟨rfl, rfl⟩)
      go_ret
      exact ⟨ret_bool HR.out.symm, (Below.refl _ _).alloc (Nat.le_refl _) _⟩
    · have hnb : (N == 0) = false := beq_eq_false_iff_ne.2 n0
      have HR : Hid (Tk.okB ⟨K, N, S⟩ = false) := by show Tk.okB _ = _; rw [HT.out, decide_eq_false n0, Bool.false_and]
      clear n0
      go_enter Tryz.func67, Tryz.ntmps67
      go_wp2_with fail
      go_ret
      exact ⟨ret_bool HR.out.symm, (Below.refl _ _).alloc (Nat.le_refl _) _⟩
  · by_cases k2 : K = 2
    · have HT : Hid (Tk.okB ⟨K, N, S⟩ = (S.toList.isEmpty && (decide (0 ≤ N) && decide (N ≤ 1099511627775)))) := by show Tk.okB _ = _; unfold Tk.okB; rw [if_neg k1, if_pos k2]
      have hkb : (K == 1) = false := beq_eq_false_iff_ne.2 k1
      have hkc : (K == 2) = true := beq_iff_eq.2 k2
      clear k1 k2
      by_cases he : S.toList.isEmpty = true
      · by_cases h0 : 0 ≤ N
        · go_enter Tryz.func67, Tryz.ntmps67
          go_wp2_with fail
          go_ret
          exact ⟨ret_bool (by rw [HT.out]; simp [he, h0]), (Below.refl _ _).alloc (Nat.le_refl _) _⟩
        · go_enter Tryz.func67, Tryz.ntmps67
          go_wp2_with fail
          go_ret
          exact ⟨ret_bool (by rw [HT.out, decide_eq_false (show ¬ 0 ≤ N from by omega)]; simp), (Below.refl _ _).alloc (Nat.le_refl _) _⟩
      · have he' : S.toList.isEmpty = false := by simpa using he
        clear he
        go_enter Tryz.func67, Tryz.ntmps67
        go_wp2_with fail
        go_ret
        exact ⟨ret_bool (by rw [HT.out]; simp [he']), (Below.refl _ _).alloc (Nat.le_refl _) _⟩
    · have HT : Hid (Tk.okB ⟨K, N, S⟩ = (decide (N = 0) && Lx.signL S.data.toList)) := by show Tk.okB _ = _; unfold Tk.okB; rw [if_neg k1, if_neg k2]
      have hkb : (K == 1) = false := beq_eq_false_iff_ne.2 k1
      have hkc : (K == 2) = false := beq_eq_false_iff_ne.2 k2
      clear k1 k2
      by_cases n0 : N = 0
      · have hnb : (N == 0) = true := beq_iff_eq.2 n0
        have HR : Hid (Tk.okB ⟨K, N, S⟩ = Lx.signL S.data.toList) := by show Tk.okB _ = _; rw [HT.out, decide_eq_true n0, Bool.true_and]
        clear n0
        go_enter Tryz.func67, Tryz.ntmps67
        go_wp2_with (go_at_call 104; refine (isSign_any S _).mono ?_; rintro e w' ⟨rfl, rfl⟩)
        go_ret
        exact ⟨ret_bool HR.out.symm, (Below.refl _ _).alloc (Nat.le_refl _) _⟩
      · have hnb : (N == 0) = false := beq_eq_false_iff_ne.2 n0
        have HR : Hid (Tk.okB ⟨K, N, S⟩ = false) := by show Tk.okB _ = _; rw [HT.out, decide_eq_false n0, Bool.false_and]
        clear n0
        go_enter Tryz.func67, Tryz.ntmps67
        go_wp2_with fail
        go_ret
        exact ⟨ret_bool HR.out.symm, (Below.refl _ _).alloc (Nat.le_refl _) _⟩

end Go.Proofs.YtcekpobmbmnplaaGreatDoor

namespace Go.Proofs.YtcekpobmbmnplaaGreatDoor
open Go.RowKit

/- A list of tokens lies in memory as a slice. -/
def Tk.fits (t : Tk) : Prop := t.text.size ≤ maxLen
structure TokCells (w : World) (b off : Nat) (ts : List Tk) : Prop where
  lt : b < w.heap.size
  kind : ∀ i (h : i < ts.length), w.cell? ⟨b, off + i * 3, none⟩ = some (.int .i64 ts[i].kind)
  num : ∀ i (h : i < ts.length), w.cell? ⟨b, off + i * 3 + 1, none⟩ = some (.int .i64 ts[i].n)
  text : ∀ i (h : i < ts.length), w.cell? ⟨b, off + i * 3 + 2, none⟩ = some (.string ts[i].text)
  fits : ∀ i (h : i < ts.length), ts[i].fits
theorem TokCells.below {B : Nat} {w w' : World} {b off : Nat} {ts : List Tk} (h : TokCells w b off ts) (hb : Below B w w') (hB : b < B) : TokCells w' b off ts :=
  ⟨Nat.lt_of_lt_of_le h.lt hb.size, fun i hi => (hb.cell (p := ⟨b, off + i * 3, none⟩) hB).trans (h.kind i hi), fun i hi => (hb.cell (p := ⟨b, off + i * 3 + 1, none⟩) hB).trans (h.num i hi), fun i hi => (hb.cell (p := ⟨b, off + i * 3 + 2, none⟩) hB).trans (h.text i hi), h.fits⟩
def kindB (t : Tk) : Bool := decide (1 ≤ t.kind) && decide (t.kind ≤ 3)
def checkN (ts : List Tk) : Int := if ts.all kindB then (if ts.all Tk.okB then (if 4096 < ts.length then 2 else 0) else 1) else 4

def ToksAt (w : World) (a : Option Addr) (ts : List Tk) : Prop := ts = [] ∨ ∃ b off, a = some ⟨b, off, none⟩ ∧ TokCells w b off ts
theorem ToksAt.later {w w' : World} {a : Option Addr} {ts : List Tk} (h : ToksAt w a ts) (hb : Below w.heap.size w w') : ToksAt w' a ts := by
  rcases h with h | ⟨b, off, e, h⟩
  · exact Or.inl h
  · exact Or.inr ⟨b, off, e, h.below hb h.lt⟩
theorem ToksAt.place {w : World} {a : Option Addr} {ts : List Tk} (h : ToksAt w a ts) {k : Nat} (hk : k < ts.length) : ∃ b off, a = some ⟨b, off, none⟩ ∧ TokCells w b off ts := by
  rcases h with h | h
  · subst h; simp at hk
  · exact h
theorem all_snoc {α : Type} (ts : List α) (p : α → Bool) (k : Nat) (h : k < ts.length) : (ts.take (k + 1)).all p = ((ts.take k).all p && p ts[k]) := by
  rw [List.take_succ_eq_append_getElem h, List.all_append]; simp
theorem all_not {α : Type} (ts : List α) (p : α → Bool) (k : Nat) (h : k < ts.length) (hp : p ts[k] = false) : ts.all p = false := by
  rw [List.all_eq_false]; exact ⟨ts[k], List.getElem_mem _, by simp [hp]⟩
theorem checkN_kind {ts : List Tk} (h : ts.all kindB = false) : checkN ts = 4 := by unfold checkN; rw [h]; rfl
theorem checkN_form {ts : List Tk} (h : ts.all kindB = true) (h1 : ts.all Tk.okB = false) : checkN ts = 1 := by unfold checkN; rw [h, h1]; rfl
theorem checkN_many {ts : List Tk} (h : ts.all kindB = true) (h1 : ts.all Tk.okB = true) (h2 : 4096 < ts.length) : checkN ts = 2 := by unfold checkN; rw [h, h1, if_pos rfl, if_pos rfl, if_pos h2]
theorem checkN_ok {ts : List Tk} (h : ts.all kindB = true) (h1 : ts.all Tk.okB = true) (h2 : ¬ 4096 < ts.length) : checkN ts = 0 := by unfold checkN; rw [h, h1, if_pos rfl, if_pos rfl, if_neg h2]

set_option maxRecDepth 100000 in
set_option maxHeartbeats 800000 in
theorem Check_any (a : Option Addr) (cap : Nat) (ts : List Tk) (w : World) (hT : ToksAt w a ts) (hl : ts.length ≤ 1000000000000000) :
    Calls Tryz.prog 31 #[.slice a ts.length cap] w fun e w' => e = .returned (.int .i64 (checkN ts)) ∧ Below w.heap.size w w' := by
  have HT : Hid (ToksAt w a ts) := hT
  clear hT
  go_enter Tryz.func31, Tryz.ntmps31
  go_wp2_with fail
  go_loopw [9, 4] (fun i _ wr => ∃ k : Nat, k ≤ ts.length ∧ i = .int .i64 k ∧ (ts.take k).all kindB = true ∧ Below w.heap.size w wr) (fun i _ _ => ts.length - (intOf i).toNat)
  case atStart => exact ⟨0, Nat.zero_le _, rfl, rfl, Below.refl _ _⟩
  case round =>
    obtain ⟨k, hk, rfl, hall, hb⟩ := hrel
    have HA : Hid ((ts.take k).all kindB = true) := hall
    clear hall
    by_cases hlt : k < ts.length
    · obtain ⟨b, off, rfl, hT⟩ := (HT.out.later hb).place hlt
      have hc0 := hT.kind k hlt
      have hc1 := hT.num k hlt
      have hc2 := hT.text k hlt
      have hlb := hT.lt
      clear hT
      have HS : Hid ((ts.take (k + 1)).all kindB = ((ts.take k).all kindB && kindB ts[k])) := all_snoc ts kindB k hlt
      by_cases hkb : 1 ≤ ts[k].kind ∧ ts[k].kind ≤ 3
      · obtain ⟨hkb1, hkb3⟩ := hkb
        have HK : Hid (kindB ts[k] = true) := by show kindB ts[k] = true; simp [kindB, hkb1, hkb3]
        go_wp2_with fail
        go_roundw
        case rel => exact ⟨k + 1, by omega, by go_num, by rw [HS.out, HA.out, HK.out]; rfl, hb.alloc hb.size _⟩
        case measure => simp [intOf]; omega
      · have HF : Hid (checkN ts = 4) := checkN_kind (all_not ts kindB k hlt (by simp [kindB]; omega))
        by_cases hk1 : ts[k].kind < 1
        · clear hkb
          go_wp2_with fail
          go_ret
          exact ⟨ret_int HF.out.symm, hb.alloc hb.size _⟩
        · have hk3 : 3 < ts[k].kind := by omega
          clear hkb
          go_wp2_with fail
          go_ret
          exact ⟨ret_int HF.out.symm, hb.alloc hb.size _⟩
    · have HK : Hid (ts.all kindB = true) := by
        have := HA.out
        rw [List.take_of_length_le (by omega)] at this
        exact this
      clear HA
      go_wp2_with fail
      go_loopw [24, 6] (fun i _ wr => ∃ k : Nat, k ≤ ts.length ∧ i = .int .i64 k ∧ (ts.take k).all Tk.okB = true ∧ Below w.heap.size w wr) (fun i _ _ => ts.length - (intOf i).toNat)
      case atStart => exact ⟨0, Nat.zero_le _, rfl, rfl, hb⟩
      case round =>
        obtain ⟨k', hk', rfl, hall, hb1⟩ := hrel
        have HA : Hid ((ts.take k').all Tk.okB = true) := hall
        clear hall
        by_cases hlt' : k' < ts.length
        · obtain ⟨b, off, rfl, hT⟩ := (HT.out.later hb1).place hlt'
          have hc0 := hT.kind k' hlt'
          have hc1 := hT.num k' hlt'
          have hc2 := hT.text k' hlt'
          have hfit := hT.fits k' hlt'
          have hlb := hT.lt
          clear hT
          have HS : Hid ((ts.take (k' + 1)).all Tk.okB = ((ts.take k').all Tk.okB && Tk.okB ts[k'])) := all_snoc ts Tk.okB k' hlt'
          by_cases hkb : Tk.okB ts[k'] = true
          · go_wp2_with (go_at_call 67; refine (isToken_any ts[k'] _ hfit).mono ?_; rintro e w' ⟨rfl, hb2⟩)
            go_roundw
            case rel => exact ⟨k' + 1, by omega, by go_num, by rw [HS.out, HA.out]; simp [hkb], (hb1.alloc hb1.size _).trans (hb2.mono (by have := hb1.size; simp; omega))⟩
            case measure => simp [intOf]; omega
          · have hkb' : Tk.okB ts[k'] = false := by simpa using hkb
            have HF : Hid (checkN ts = 1) := checkN_form HK.out (all_not ts Tk.okB k' hlt' hkb')
            clear hkb
            go_wp2_with (go_at_call 67; refine (isToken_any ts[k'] _ hfit).mono ?_; rintro e w' ⟨rfl, hb2⟩)
            go_ret
            exact ⟨ret_int HF.out.symm, (hb1.alloc hb1.size _).trans (hb2.mono (by have := hb1.size; simp; omega))⟩
        · have HO : Hid (ts.all Tk.okB = true) := by
            have := HA.out
            rw [List.take_of_length_le (by omega)] at this
            exact this
          clear HA
          by_cases hm : 4096 < ts.length
          · have HF : Hid (checkN ts = 2) := checkN_many HK.out HO.out hm
            go_wp2_with fail
            go_ret
            exact ⟨ret_int HF.out.symm, hb1⟩
          · have HF : Hid (checkN ts = 0) := checkN_ok HK.out HO.out hm
            go_wp2_with fail
            go_ret
            exact ⟨ret_int HF.out.symm, hb1⟩

end Go.Proofs.YtcekpobmbmnplaaGreatDoor
