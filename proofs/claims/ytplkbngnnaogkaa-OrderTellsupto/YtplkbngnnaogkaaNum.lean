/-
  The plain mathematics of numerals: which digits are a number of a token, and that they are the numeral of its value.
-/
import Derived.Test.YtplkbngnnaogkaaPure
import Derived.Lib.ItoaMem
import Derived.Lib.Bytealg
import Derived.Lib.IndexLaws
namespace Go.Proofs.Ytplkbngnnaogkaa
namespace Lx

def dv (c : UInt8) : Nat := c.toNat - 48
def valL (l : List UInt8) : Nat := l.foldl (fun n c => 10 * n + dv c) 0
def leadOk : List UInt8 → Bool
  | [] => true
  | [_] => true
  | c :: _ => c != 48
def numOk (l : List UInt8) : Bool := l.all digB && leadOk l && decide (valL l ≤ 1099511627775)
def signL : List UInt8 → Bool
  | [c] => signB c
  | _ => false

theorem valL_snoc (l : List UInt8) (c : UInt8) : valL (l ++ [c]) = 10 * valL l + dv c := by simp [valL, List.foldl_append]
theorem foldl_ge (l : List UInt8) : ∀ n : Nat, n ≤ l.foldl (fun n c => 10 * n + dv c) n := by
  induction l with
  | nil => intro n; exact Nat.le_refl _
  | cons c l ih => intro n; simp only [List.foldl_cons]; have := ih (10 * n + dv c); omega
theorem valL_append_ge (a b : List UInt8) : valL a ≤ valL (a ++ b) := by
  unfold valL; rw [List.foldl_append]; exact foldl_ge b _
theorem dig_range (c : UInt8) (h : digB c = true) : 48 ≤ c.toNat ∧ c.toNat ≤ 57 := by
  simp [digB] at h; omega
theorem ofNat_dv (c : UInt8) (h : digB c = true) : UInt8.ofNat (48 + dv c) = c := by
  have := dig_range c h
  apply UInt8.toNat_inj.1
  rw [UInt8.toNat_ofNat']
  unfold dv
  omega
/- Digits without a nought ahead are the numeral of their value. -/
theorem dec_val : ∀ (n : Nat) (l : List UInt8), l.length = n → l ≠ [] → l.all digB = true → leadOk l = true → Lib.decDigits (valL l) = l ∧ (2 ≤ l.length → 0 < valL l) := by
  intro n
  induction n with
  | zero => intro l hl hne; exact absurd (List.eq_nil_of_length_eq_zero hl) hne
  | succ n ih =>
    intro l hl _ hd hlead
    obtain ⟨i, c, rfl⟩ : ∃ i c, l = i ++ [c] := ⟨l.dropLast, l.getLast (by intro h; simp [h] at hl), (List.dropLast_concat_getLast _).symm⟩
    simp only [List.all_append, List.all_cons, List.all_nil, Bool.and_true, Bool.and_eq_true] at hd
    have hc := dig_range c hd.2
    rw [valL_snoc]
    cases i with
    | nil =>
      refine ⟨?_, by simp⟩
      have e : 10 * valL [] + dv c = dv c := by simp [valL]
      rw [e, List.nil_append, Lib.decDigits, dif_pos (by unfold dv; omega), ofNat_dv c hd.2]
    | cons x r =>
      have hlead' : leadOk (x :: r) = true := by
        cases r with
        | nil => rfl
        | cons y r => exact hlead
      have hx : (x != 48) = true := by
        cases r with
        | nil => simpa [leadOk] using hlead
        | cons y r => simpa [leadOk] using hlead
      obtain ⟨h1, h2⟩ := ih (x :: r) (by simp at hl; simp; omega) (by simp) hd.1 hlead'
      have hpos : 0 < valL (x :: r) := by
        cases r with
        | nil =>
          have hxr := dig_range x (by simp at hd; exact hd.1)
          have : x.toNat ≠ 48 := fun e => by
            rw [bne_iff_ne] at hx; exact hx (UInt8.toNat_inj.1 (by rw [e]; rfl))
          simp [valL, dv]; omega
        | cons y r => exact h2 (by simp)
      have hdv : dv c < 10 := by unfold dv; omega
      refine ⟨?_, fun _ => by omega⟩
      rw [Lib.decDigits, dif_neg (by omega), show (10 * valL (x :: r) + dv c) / 10 = valL (x :: r) from by omega, show (10 * valL (x :: r) + dv c) % 10 = dv c from by omega, h1, ofNat_dv c hd.2]
theorem dec_pos_head (u : Nat) : ∀ c r, Lib.decDigits u = c :: r → 10 ≤ u → c ≠ 48 := by
  induction u using Nat.strongRecOn with
  | _ u ih =>
    intro c r h hu
    rw [Lib.decDigits, dif_neg (by omega)] at h
    by_cases h10 : u / 10 < 10
    · rw [Lib.decDigits, dif_pos h10] at h
      rw [List.singleton_append, List.cons.injEq] at h
      rw [← h.1]
      intro e
      have := congrArg UInt8.toNat e
      rw [UInt8.toNat_ofNat'] at this
      have e48 : (48 : UInt8).toNat = 48 := rfl
      omega
    · cases hd : Lib.decDigits (u / 10) with
      | nil => rw [Lib.decDigits, dif_neg h10] at hd; simp at hd
      | cons x y =>
        rw [hd] at h
        simp at h
        rw [← h.1]
        exact ih (u / 10) (by omega) x y hd (by omega)
theorem dec_small (u : Nat) (h : u < 10) : Lib.decDigits u = [UInt8.ofNat (48 + u)] := by rw [Lib.decDigits, dif_pos h]
theorem lead_of_dec (l : List UInt8) (h : Lib.decDigits (valL l) = l) : leadOk l = true := by
  cases l with
  | nil => rfl
  | cons c r =>
    cases r with
    | nil => rfl
    | cons y r =>
      by_cases h10 : valL (c :: y :: r) < 10
      · rw [dec_small _ h10] at h; simp at h
      · have := dec_pos_head _ c (y :: r) h (by omega)
        simp [leadOk, this]
theorem val_ge_len : ∀ (r : List UInt8) (n : Nat), 0 < n → 10 ^ r.length * n ≤ r.foldl (fun n c => 10 * n + dv c) n
  | [], n, _ => by simp
  | c :: r, n, h => by
    have := val_ge_len r (10 * n + dv c) (by omega)
    simp only [List.foldl_cons, List.length_cons, Nat.pow_succ]
    refine Nat.le_trans ?_ this
    rw [Nat.mul_assoc]
    exact Nat.mul_le_mul_left _ (by omega)
theorem numOk_long (l : List UInt8) (h : 15 < l.length) : numOk l = false := by
  unfold numOk
  cases hd : l.all digB with
  | false => rfl
  | true =>
    cases hl : leadOk l with
    | false => rfl
    | true =>
      simp only [Bool.true_and, decide_eq_false_iff_not]
      cases l with
      | nil => simp at h
      | cons c r =>
        cases r with
        | nil => simp at h
        | cons y r =>
          have hc : c ≠ 48 := by simpa [leadOk] using hl
          have hcd := dig_range c (by simp at hd; exact hd.1)
          have hc1 : 0 < 10 * 0 + dv c := by
            have : c.toNat ≠ 48 := fun e => hc (UInt8.toNat_inj.1 (by rw [e]; rfl))
            unfold dv; omega
          have := val_ge_len (y :: r) (10 * 0 + dv c) hc1
          have hlen : 15 ≤ (y :: r).length := by simp at h ⊢; omega
          have hp : 10 ^ 15 ≤ 10 ^ (y :: r).length := Nat.pow_le_pow_right (by omega) hlen
          have hm : 10 ^ (y :: r).length * 1 ≤ 10 ^ (y :: r).length * (10 * 0 + dv c) := Nat.mul_le_mul_left _ hc1
          have e : valL (c :: y :: r) = (y :: r).foldl (fun n c => 10 * n + dv c) (10 * 0 + dv c) := rfl
          rw [e]
          have h15 : (10 : Nat) ^ 15 = 1000000000000000 := rfl
          omega
theorem numOk_digits (l : List UInt8) (hne : l ≠ []) (hd : l.all digB = true) : numOk l = (decide (valL l ≤ 1099511627775) && decide (Lib.decDigits (valL l) = l)) := by
  unfold numOk
  rw [hd, Bool.true_and]
  cases hl : leadOk l with
  | true => rw [(dec_val _ l rfl hne hd hl).1]; simp
  | false =>
    have : ¬ Lib.decDigits (valL l) = l := fun e => by rw [lead_of_dec l e] at hl; cases hl
    simp [this]
theorem numOk_nondigit (l : List UInt8) (hd : l.all digB = false) : numOk l = false := by unfold numOk; rw [hd]; rfl
theorem valL_bound : ∀ (l : List UInt8), l.all digB = true → valL l < 10 ^ l.length := by
  have key : ∀ (l : List UInt8) (n : Nat), l.all digB = true → l.foldl (fun n c => 10 * n + dv c) n < 10 ^ l.length * (n + 1) := by
    intro l
    induction l with
    | nil => intro n _; simp
    | cons c l ih =>
      intro n h
      simp only [List.all_cons, Bool.and_eq_true] at h
      have hc := dig_range c h.1
      have := ih (10 * n + dv c) h.2
      simp only [List.foldl_cons, List.length_cons, Nat.pow_succ]
      refine Nat.lt_of_lt_of_le this ?_
      rw [Nat.mul_assoc]
      exact Nat.mul_le_mul_left _ (by unfold dv; omega)
  intro l h
  have := key l 0 h
  simpa [valL] using this
theorem indexByte_sign (c : UInt8) : decide (0 ≤ Lib.indexByte signs c) = signB c := by
  cases h : signB c with
  | true =>
    unfold signB at h
    rw [List.contains_iff_mem] at h
    obtain ⟨k, hk, e⟩ := List.getElem_of_mem h
    have hge := Lib.indexByte_ge signs c
    rw [decide_eq_true_iff]
    by_cases hm : Lib.indexByte signs c = -1
    · exact absurd (by rw [List.getElem?_eq_getElem hk, e]) (Lib.indexByte_none hm k)
    · omega
  | false =>
    rw [decide_eq_false_iff_not]
    intro hge
    obtain ⟨o, ho⟩ := Int.eq_ofNat_of_zero_le hge
    have := (Lib.indexByte_some ho).1
    have hm : c ∈ signs := List.mem_of_getElem? this
    unfold signB at h
    rw [← List.contains_iff_mem] at hm
    rw [hm] at h
    cases h

theorem cons_of (s : ByteArray) (h : 0 < s.size) : ∃ r, s.data.toList = s[0] :: r ∧ r.length = s.size - 1 := by
  have := take_snoc s 0 h
  have hl := len_toList s
  cases hl' : s.data.toList with
  | nil => rw [hl'] at hl; simp at hl; omega
  | cons c r => rw [hl'] at this hl; simp at this hl; exact ⟨r, by rw [this], by omega⟩
theorem lead_bad (s : ByteArray) (h : 1 < s.size) (h0 : s[0] = 48) : leadOk s.data.toList = false := by
  obtain ⟨r, e, hr⟩ := cons_of s (by omega)
  rw [e, h0]
  cases r with
  | nil => simp at hr; omega
  | cons y r => rfl
theorem lead_good (s : ByteArray) (h : ∀ h1 : 1 < s.size, s[0] ≠ 48) : leadOk s.data.toList = true := by
  by_cases h0 : s.size = 0
  · have : s.data.toList = [] := List.eq_nil_of_length_eq_zero (by rw [len_toList]; exact h0)
    rw [this]; rfl
  obtain ⟨r, e, hr⟩ := cons_of s (by omega)
  rw [e]
  cases r with
  | nil => rfl
  | cons y r => simp at hr; simpa [leadOk] using h (by omega)
theorem val_take_snoc (s : ByteArray) (k : Nat) (h : k < s.size) : valL (s.data.toList.take (k + 1)) = 10 * valL (s.data.toList.take k) + dv s[k] := by
  rw [take_snoc s k h, valL_snoc]
theorem val_take_le (s : ByteArray) (k : Nat) : valL (s.data.toList.take k) ≤ valL s.data.toList := by
  have := valL_append_ge (s.data.toList.take k) (s.data.toList.drop k)
  rwa [List.take_append_drop] at this
theorem numOk_big (s : ByteArray) (k : Nat) (h : 1099511627775 < valL (s.data.toList.take k)) : numOk s.data.toList = false := by
  have := val_take_le s k
  unfold numOk
  rw [show decide (valL s.data.toList ≤ 1099511627775) = false from by simp; omega]; simp
theorem numOk_lead (l : List UInt8) (h : leadOk l = false) : numOk l = false := by unfold numOk; rw [h]; simp
theorem signL_one (s : ByteArray) (h : s.size = 1) : signL s.data.toList = signB s[0] := by
  obtain ⟨r, e, hr⟩ := cons_of s (by omega)
  have : r = [] := List.eq_nil_of_length_eq_zero (by omega)
  rw [e, this]; rfl
theorem signL_other (s : ByteArray) (h : s.size ≠ 1) : signL s.data.toList = false := by
  have hl := len_toList s
  cases e : s.data.toList with
  | nil => rfl
  | cons c r =>
    cases r with
    | nil => rw [e] at hl; simp at hl; omega
    | cons y r => rfl

theorem dec_len_le (n : Nat) : (Lib.decDigits n).length ≤ n + 1 := by
  induction n using Nat.strongRecOn with
  | _ n ih =>
    by_cases h : n < 10
    · rw [dec_small n h]; simp
    · rw [Lib.decDigits, dif_neg h, List.length_append]
      have := ih (n / 10) (by omega)
      simp only [List.length_cons, List.length_nil]
      omega
/- a number of a token has at most thirteen digits -/
theorem dec_len_tok : ∀ (k n : Nat), n < 10 ^ (k + 1) → (Lib.decDigits n).length ≤ k + 1
  | 0, n, h => by rw [dec_small n (by simpa using h)]; simp
  | k + 1, n, h => by
    by_cases h1 : n < 10
    · rw [dec_small n h1]; simp
    · rw [Lib.decDigits, dif_neg h1, List.length_append]
      have := dec_len_tok k (n / 10) (by rw [Nat.pow_succ] at h; omega)
      simp only [List.length_cons, List.length_nil]
      omega

end Lx
end Go.Proofs.Ytplkbngnnaogkaa
