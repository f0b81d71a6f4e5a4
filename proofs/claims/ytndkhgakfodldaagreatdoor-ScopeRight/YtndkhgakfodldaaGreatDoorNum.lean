/-
  The plain mathematics of numerals: which digits are a number of a token, and that they are the numeral of its value.
-/
import Derived.Test.YtndkhgakfodldaaGreatDoorPure
import Derived.Lib.ItoaMem
import Derived.Lib.Bytealg
import Derived.Lib.IndexLaws
import Derived.Deep.LoopGhost
namespace Go.Proofs.YtndkhgakfodldaaGreatDoor
namespace Lx

def dv (c : UInt8) : Nat := c.toNat - 48
def valL (l : List UInt8) : Nat := l.foldl (fun n c => 10 * n + dv c) 0
def leadOk : List UInt8 → Bool
  | [] => true
  | [_] => true
  | c :: _ => c != 48
def numOk (l : List UInt8) : Bool := l.all digB && leadOk l && decide (valL l ≤ 1099511627775)
def signL : List UInt8 → Bool
  | [c] => signB c
  | _ => false

theorem valL_snoc (l : List UInt8) (c : UInt8) : valL (l ++ [c]) = 10 * valL l + dv c := by simp [valL, List.foldl_append]
theorem foldl_ge (l : List UInt8) : ∀ n : Nat, n ≤ l.foldl (fun n c => 10 * n + dv c) n := by
  induction l with
  | nil => intro n; exact Nat.le_refl _
  | cons c l ih => intro n; simp only [List.foldl_cons]; have := ih (10 * n + dv c); omega
theorem valL_append_ge (a b : List UInt8) : valL a ≤ valL (a ++ b) := by
  unfold valL; rw [List.foldl_append]; exact foldl_ge b _
theorem dig_range (c : UInt8) (h : digB c = true) : 48 ≤ c.toNat ∧ c.toNat ≤ 57 := by
  simp [digB] at h; omega
/- Digits without a nought ahead are the numeral of their value. -/
theorem numOk_nondigit (l : List UInt8) (hd : l.all digB = false) : numOk l = false := by unfold numOk; rw [hd]; rfl
theorem indexByte_sign (c : UInt8) : decide (0 ≤ Lib.indexByte signs c) = signB c := by
  cases h : signB c with
  | true =>
    unfold signB at h
    rw [List.contains_iff_mem] at h
    obtain ⟨k, hk, e⟩ := List.getElem_of_mem h
    have hge := Lib.indexByte_ge signs c
    rw [decide_eq_true_iff]
    by_cases hm : Lib.indexByte signs c = -1
    · exact absurd (by rw [List.getElem?_eq_getElem hk, e]) (Lib.indexByte_none hm k)
    · omega
  | false =>
    rw [decide_eq_false_iff_not]
    intro hge
    obtain ⟨o, ho⟩ := Int.eq_ofNat_of_zero_le hge
    have := (Lib.indexByte_some ho).1
    have hm : c ∈ signs := List.mem_of_getElem? this
    unfold signB at h
    rw [← List.contains_iff_mem] at hm
    rw [hm] at h
    cases h

theorem cons_of (s : ByteArray) (h : 0 < s.size) : ∃ r, s.data.toList = s[0] :: r ∧ r.length = s.size - 1 := by
  have := take_snoc s 0 h
  have hl := len_toList s
  cases hl' : s.data.toList with
  | nil => rw [hl'] at hl; simp at hl; omega
  | cons c r => rw [hl'] at this hl; simp at this hl; exact ⟨r, by rw [this], by omega⟩
theorem lead_bad (s : ByteArray) (h : 1 < s.size) (h0 : s[0] = 48) : leadOk s.data.toList = false := by
  obtain ⟨r, e, hr⟩ := cons_of s (by omega)
  rw [e, h0]
  cases r with
  | nil => simp at hr; omega
  | cons y r => rfl
theorem lead_good (s : ByteArray) (h : ∀ h1 : 1 < s.size, s[0] ≠ 48) : leadOk s.data.toList = true := by
  by_cases h0 : s.size = 0
  · have : s.data.toList = [] := List.eq_nil_of_length_eq_zero (by rw [len_toList]; exact h0)
    rw [this]; rfl
  obtain ⟨r, e, hr⟩ := cons_of s (by omega)
  rw [e]
  cases r with
  | nil => rfl
  | cons y r => simp at hr; simpa [leadOk] using h (by omega)
theorem val_take_snoc (s : ByteArray) (k : Nat) (h : k < s.size) : valL (s.data.toList.take (k + 1)) = 10 * valL (s.data.toList.take k) + dv s[k] := by
  rw [take_snoc s k h, valL_snoc]
theorem val_take_le (s : ByteArray) (k : Nat) : valL (s.data.toList.take k) ≤ valL s.data.toList := by
  have := valL_append_ge (s.data.toList.take k) (s.data.toList.drop k)
  rwa [List.take_append_drop] at this
theorem numOk_big (s : ByteArray) (k : Nat) (h : 1099511627775 < valL (s.data.toList.take k)) : numOk s.data.toList = false := by
  have := val_take_le s k
  unfold numOk
  rw [show decide (valL s.data.toList ≤ 1099511627775) = false from by simp; omega]; simp
theorem numOk_lead (l : List UInt8) (h : leadOk l = false) : numOk l = false := by unfold numOk; rw [h]; simp
theorem signL_one (s : ByteArray) (h : s.size = 1) : signL s.data.toList = signB s[0] := by
  obtain ⟨r, e, hr⟩ := cons_of s (by omega)
  have : r = [] := List.eq_nil_of_length_eq_zero (by omega)
  rw [e, this]; rfl
theorem signL_other (s : ByteArray) (h : s.size ≠ 1) : signL s.data.toList = false := by
  have hl := len_toList s
  cases e : s.data.toList with
  | nil => rfl
  | cons c r =>
    cases r with
    | nil => rw [e] at hl; simp at hl; omega
    | cons y r => rfl

/- a number of a token has at most thirteen digits -/
end Lx
end Go.Proofs.YtndkhgakfodldaaGreatDoor

namespace Go.Proofs.YtndkhgakfodldaaGreatDoor
open Go.RowKit

set_option maxRecDepth 100000 in
set_option maxHeartbeats 400000 in
theorem isSign_any (s : ByteArray) (w : World) :
    Calls Tryz.prog 203 #[.string s] w fun e w' => e = .returned (.bool (Lx.signL s.data.toList)) ∧ w' = w := by
  by_cases h1 : s.size = 1
  · have h0 : 0 < s.size := by omega
    have HN : Hid (Lx.signL s.data.toList = decide (0 ≤ Lib.indexByte signsBA.data.toList s[0])) := by
      have := Lx.indexByte_sign s[0]
      exact (Lx.signL_one s h1).trans this.symm
    have hlen : ((s.size : Int) == 1) = true := by rw [beq_iff_eq]; omega
    clear h1
    go_enter Tryz.func203, Tryz.ntmps203
    go_wp2_with (go_at_call 255; refine (Tryz.strings_IndexByte signsBA _ _).mono ?_; rintro e w' ⟨rfl, rfl⟩)
    all_goals go_ret
    all_goals exact ⟨ret_bool (by rw [HN.out]; simp), rfl⟩
  · have HN : Hid (Lx.signL s.data.toList = false) := Lx.signL_other s h1
    have hlen : ((s.size : Int) == 1) = false := by rw [beq_eq_false_iff_ne]; omega
    clear h1
    go_enter Tryz.func203, Tryz.ntmps203
    go_wp2_with fail
    go_ret
    exact ⟨ret_bool HN.out.symm, rfl⟩

def errPanic : List PanicEntry := [{ v := .iface 31 (.int .i64 1), recovered := false }]
def numEnd (l : List UInt8) : Ending := if Lx.numOk l then .returned (.int .i64 (Lx.valL l)) else .panicked errPanic
theorem numEnd_yes {l : List UInt8} (h : Lx.numOk l = true) : numEnd l = .returned (.int .i64 (Lx.valL l)) := by unfold numEnd; rw [h]; rfl
theorem numEnd_no {l : List UInt8} (h : Lx.numOk l = false) : numEnd l = .panicked errPanic := by unfold numEnd; rw [h]; rfl

set_option maxRecDepth 100000 in
set_option maxHeartbeats 400000 in
theorem number_any (s : ByteArray) (w : World) (hs : s.size ≤ maxLen) :
    Calls Tryz.prog 250 #[.string s] w fun e w' => e = numEnd s.data.toList ∧ w' = w := by
  unfold maxLen at hs
  by_cases hlead : ∃ h : 1 < s.size, s[0] = 48
  · obtain ⟨h1, h0⟩ := hlead
    have HN : Hid (numEnd s.data.toList = .panicked errPanic) := numEnd_no (Lx.numOk_lead _ (Lx.lead_bad s h1 h0))
    have hb : (((s[0].toNat : Nat) : Int) == 48) = true := by rw [h0]; rfl
    clear h0
    go_enter Tryz.func250, Tryz.ntmps250
    go_wp2_with fail
    exact ⟨rfl, HN.out.symm, rfl⟩
  · have HL : Hid (Lx.leadOk s.data.toList = true) := Lx.lead_good s (fun h1 h0 => hlead ⟨h1, h0⟩)
    have hpart : (¬ 1 < s.size) ∨ ∃ h : 1 < s.size, (((s[0].toNat : Nat) : Int) == 48) = false := by
      by_cases h1 : 1 < s.size
      · refine Or.inr ⟨h1, ?_⟩
        rw [beq_eq_false_iff_ne]
        intro e
        exact hlead ⟨h1, UInt8.toNat_inj.1 (by show s[0].toNat = 48; omega)⟩
      · exact Or.inl h1
    clear hlead
    rcases hpart with h1 | ⟨h1, hb⟩
    all_goals
      go_enter Tryz.func250, Tryz.ntmps250
      go_wp2_with fail
      go_loop [16, 3, 4] (fun i n _ => ∃ k : Nat, k ≤ s.size ∧ i = .int .i64 k ∧ n = .int .i64 (Lx.valL (s.data.toList.take k)) ∧ (s.data.toList.take k).all Lx.digB = true ∧ Lx.valL (s.data.toList.take k) ≤ 1099511627775) (fun i _ _ => s.size - (intOf i).toNat)
      case atStart => exact ⟨0, Nat.zero_le _, rfl, rfl, rfl, by simp [Lx.valL]⟩
      case round =>
        obtain ⟨k, hk, rfl, rfl, hall, hv⟩ := hrel
        have HA : Hid ((s.data.toList.take k).all Lx.digB = true) := hall
        clear hall
        by_cases hlt : k < s.size
        · by_cases hd : Lx.digB s[k] = true
          · have HS : Hid ((s.data.toList.take (k + 1)).all Lx.digB = ((s.data.toList.take k).all Lx.digB && Lx.digB s[k])) := Lx.all_take_snoc s k hlt Lx.digB
            have HV : Hid (Lx.valL (s.data.toList.take (k + 1)) = 10 * Lx.valL (s.data.toList.take k) + Lx.dv s[k]) := Lx.val_take_snoc s k hlt
            have hr := Lx.dig_range _ hd
            have HB : Hid (Lx.valL (s.data.toList.take (k + 1)) ≤ 1099511627775 ∨ Lx.numOk s.data.toList = false) := by
              by_cases hm : Lx.valL (s.data.toList.take (k + 1)) ≤ 1099511627775
              · exact Or.inl hm
              · exact Or.inr (Lx.numOk_big s (k + 1) (by omega))
            generalize hV : Lx.valL (s.data.toList.take k) = V at *
            have HVV : Hid (Lx.valL (s.data.toList.take k) = V) := hV
            clear hV
            obtain ⟨hr0, hr1⟩ := hr
            go_wp2_with (go_at_call 249; refine (isDigit_any _ _).mono ?_; rintro e w' ⟨rfl, rfl⟩)
            · have hN : Lx.numOk s.data.toList = false := by
                rcases HB.out with h | h
                · rw [HV.out] at h; unfold Lx.dv at h; omega
                · exact h
              exact ⟨rfl, (numEnd_no hN).symm, rfl⟩
            · go_round
              case rel => exact ⟨k + 1, by omega, by go_num, by rw [HV.out]; unfold Lx.dv; go_num, by rw [HS.out, HA.out]; simp [hd], by rw [HV.out]; unfold Lx.dv; omega⟩
              case measure => simp [intOf]; omega
          · have hd' : Lx.digB s[k] = false := by simpa using hd
            clear hd
            have HN : Hid (numEnd s.data.toList = .panicked errPanic) := numEnd_no (Lx.numOk_nondigit _ (Lx.not_all s k hlt _ hd'))
            go_wp2_with (go_at_call 249; refine (isDigit_any _ _).mono ?_; rintro e w' ⟨rfl, rfl⟩)
            exact ⟨rfl, HN.out.symm, rfl⟩
        · obtain rfl : k = s.size := by omega
          have HN : Hid (numEnd s.data.toList = .returned (.int .i64 (Lx.valL (s.data.toList.take s.size)))) := by
            have hT : s.data.toList.take s.size = s.data.toList := List.take_of_length_le (by rw [Lx.len_toList]; exact Nat.le_refl _)
            rw [hT] at HA hv ⊢
            exact numEnd_yes (by unfold Lx.numOk; rw [HA.out, HL.out]; simp; exact hv)
          go_wp2_with fail
          go_ret
          exact ⟨HN.out.symm, rfl⟩

def strOf (l : List UInt8) : ByteArray := ⟨l.toArray⟩
theorem strOf_back (s : ByteArray) : strOf s.data.toList = s := by simp [strOf]
end Go.Proofs.YtndkhgakfodldaaGreatDoor

namespace Go.Proofs.YtndkhgakfodldaaGreatDoor
open Go.RowKit

/- A token as the program holds it. -/
structure Tk where
  kind : Int
  n : Int
  text : ByteArray
def Tk.val (t : Tk) : Value := .agg #[.int .i64 t.kind, .int .i64 t.n, .string t.text]
def tokOf (s : ByteArray) : Option Tk :=
  if Lx.signL s.data.toList then some ⟨3, 0, s⟩ else if Lx.nameB s.data.toList then some ⟨1, 0, s⟩ else if Lx.numOk s.data.toList then some ⟨2, Lx.valL s.data.toList, ⟨#[]⟩⟩ else none

set_option maxRecDepth 100000 in
set_option maxHeartbeats 400000 in
theorem Clone_any (s : ByteArray) (w : World) (hs : s.size ≤ 281474976710656) :
    Calls Tryz.prog 173 #[.string s] w fun e w' => e = .returned (.string s) ∧ Below w.heap.size w w' := by
  go_enter Tryz.func173, Tryz.ntmps173
  go_wp2_with (go_at_call 220; refine (Tryz.stringslite_Clone s _ hs).mono ?_; rintro e w' ⟨rfl, hb⟩)
  go_ret
  exact ⟨rfl, hb⟩

set_option maxRecDepth 100000 in
set_option maxHeartbeats 400000 in
theorem token_any (s : ByteArray) (w : World) (hs : s.size ≤ maxLen) :
    Calls Tryz.prog 194 #[.string s] w fun e w' => ((∃ t, tokOf s = some t ∧ e = .returned t.val) ∨ (tokOf s = none ∧ e = .panicked errPanic)) ∧ Below w.heap.size w w' := by
  by_cases h1 : Lx.signL s.data.toList = true
  · have HT : Hid (tokOf s = some ⟨3, 0, s⟩) := by show tokOf s = _; unfold tokOf; rw [if_pos h1]
    go_enter Tryz.func194, Tryz.ntmps194
    go_wp2_with (go_at_call 203; refine (isSign_any s _).mono ?_; rintro e w' ⟨rfl, rfl⟩)
    exact bodyPost_ret (v := Tk.val ⟨3, 0, s⟩) (by simp [results, Tryz.results194, go_sem, Tk.val]) rfl ⟨Or.inl ⟨_, HT.out, rfl⟩, (Below.refl _ _).alloc (Nat.le_refl _) _⟩
  · have h1' : Lx.signL s.data.toList = false := by simpa using h1
    clear h1
    by_cases h2 : Lx.nameB s.data.toList = true
    · have HT : Hid (tokOf s = some ⟨1, 0, s⟩) := by show tokOf s = _; unfold tokOf; rw [if_neg (by simp [h1']), if_pos h2]
      go_enter Tryz.func194, Tryz.ntmps194
      go_wp2_with (first | (go_at_call 203; refine (isSign_any s _).mono ?_; rintro e w' ⟨rfl, rfl⟩) | (go_at_call 202; refine (isName_any s _ hs).mono ?_; rintro e w' ⟨rfl, rfl⟩))
      exact bodyPost_ret (v := Tk.val ⟨1, 0, s⟩) (by simp [results, Tryz.results194, go_sem, Tk.val]) rfl ⟨Or.inl ⟨_, HT.out, rfl⟩, (Below.refl _ _).alloc (Nat.le_refl _) _⟩
    · have h2' : Lx.nameB s.data.toList = false := by simpa using h2
      clear h2
      by_cases h3 : Lx.numOk s.data.toList = true
      · have HT : Hid (tokOf s = some ⟨2, Lx.valL s.data.toList, ⟨#[]⟩⟩) := by show tokOf s = _; unfold tokOf; rw [if_neg (by simp [h1']), if_neg (by simp [h2']), if_pos h3]
        have hN := numEnd_yes h3
        have HC : Hid (∀ w : World, Calls Tryz.prog 250 #[.string s] w fun e w' => e = .returned (.int .i64 (Lx.valL s.data.toList)) ∧ w' = w) := fun w => by rw [← hN]; exact number_any s w hs
        clear hN h3
        go_enter Tryz.func194, Tryz.ntmps194
        go_wp2_with (first | (go_at_call 203; refine (isSign_any s _).mono ?_; rintro e w' ⟨rfl, rfl⟩) | (go_at_call 202; refine (isName_any s _ hs).mono ?_; rintro e w' ⟨rfl, rfl⟩) | (go_at_call 250; refine (HC.out _).mono ?_; rintro e w' ⟨rfl, rfl⟩))
        exact bodyPost_ret (v := Tk.val ⟨2, Lx.valL s.data.toList, ⟨#[]⟩⟩) (by simp [results, Tryz.results194, go_sem, Tk.val]) rfl ⟨Or.inl ⟨_, HT.out, rfl⟩, (Below.refl _ _).alloc (Nat.le_refl _) _⟩
      · have h3' : Lx.numOk s.data.toList = false := by simpa using h3
        have HT : Hid (tokOf s = none) := by show tokOf s = _; unfold tokOf; rw [if_neg (by simp [h1']), if_neg (by simp [h2']), if_neg h3]
        have hN := numEnd_no h3'
        have HC : Hid (∀ w : World, Calls Tryz.prog 250 #[.string s] w fun e w' => e = .panicked errPanic ∧ w' = w) := fun w => by rw [← hN]; exact number_any s w hs
        clear hN h3 h3'
        go_enter Tryz.func194, Tryz.ntmps194
        go_wp2_with (first | (go_at_call 203; refine (isSign_any s _).mono ?_; rintro e w' ⟨rfl, rfl⟩) | (go_at_call 202; refine (isName_any s _ hs).mono ?_; rintro e w' ⟨rfl, rfl⟩) | (go_at_call 250; refine (HC.out _).mono ?_; rintro e w' ⟨rfl, rfl⟩))
        exact ⟨rfl, Or.inr ⟨HT.out, rfl⟩, (Below.refl _ _).alloc (Nat.le_refl _) _⟩

/- The library's table of powers of ten, as it is laid when the program begins. -/
end Go.Proofs.YtndkhgakfodldaaGreatDoor

namespace Go.Proofs.YtndkhgakfodldaaGreatDoor
open Go.RowKit

def Tk.okB (t : Tk) : Bool :=
  if t.kind = 1 then decide (t.n = 0) && Lx.nameB t.text.data.toList
  else if t.kind = 2 then t.text.toList.isEmpty && (decide (0 ≤ t.n) && decide (t.n ≤ 1099511627775))
  else decide (t.n = 0) && Lx.signL t.text.data.toList
set_option maxRecDepth 100000 in
set_option maxHeartbeats 800000 in
theorem isToken_any (t : Tk) (w : World) (hs : t.text.size ≤ maxLen) :
    Calls Tryz.prog 160 #[t.val] w fun e w' => e = .returned (.bool t.okB) ∧ Below w.heap.size w w' := by
  obtain ⟨K, N, S⟩ := t
  simp only [Tk.val] at *
  by_cases k1 : K = 1
  · have HT : Hid (Tk.okB ⟨K, N, S⟩ = (decide (N = 0) && Lx.nameB S.data.toList)) := if_pos k1
    have hkb : (K == 1) = true := beq_iff_eq.2 k1
    clear k1
    by_cases n0 : N = 0
    · have hnb : (N == 0) = true := beq_iff_eq.2 n0
      have HR : Hid (Tk.okB ⟨K, N, S⟩ = Lx.nameB S.data.toList) := by show Tk.okB _ = _; rw [HT.out, decide_eq_true n0, Bool.true_and]
      clear n0
      go_enter Tryz.func160, Tryz.ntmps160
      go_wp2_with (go_at_call 202; refine (isName_any S _ hs).mono ?_; rintro e w' ⟨rfl, rfl⟩)
      go_ret
      exact ⟨ret_bool HR.out.symm, (Below.refl _ _).alloc (Nat.le_refl _) _⟩
    · have hnb : (N == 0) = false := beq_eq_false_iff_ne.2 n0
      have HR : Hid (Tk.okB ⟨K, N, S⟩ = false) := by show Tk.okB _ = _; rw [HT.out, decide_eq_false n0, Bool.false_and]
      clear n0
      go_enter Tryz.func160, Tryz.ntmps160
      go_wp2_with fail
      go_ret
      exact ⟨ret_bool HR.out.symm, (Below.refl _ _).alloc (Nat.le_refl _) _⟩
  · by_cases k2 : K = 2
    · have HT : Hid (Tk.okB ⟨K, N, S⟩ = (S.toList.isEmpty && (decide (0 ≤ N) && decide (N ≤ 1099511627775)))) := by show Tk.okB _ = _; unfold Tk.okB; rw [if_neg k1, if_pos k2]
      have hkb : (K == 1) = false := beq_eq_false_iff_ne.2 k1
      have hkc : (K == 2) = true := beq_iff_eq.2 k2
      clear k1 k2
      by_cases he : S.toList.isEmpty = true
      · by_cases h0 : 0 ≤ N
        · go_enter Tryz.func160, Tryz.ntmps160
          go_wp2_with fail
          go_ret
          exact ⟨ret_bool (by rw [HT.out]; simp [he, h0]), (Below.refl _ _).alloc (Nat.le_refl _) _⟩
        · go_enter Tryz.func160, Tryz.ntmps160
          go_wp2_with fail
          go_ret
          exact ⟨ret_bool (by rw [HT.out, decide_eq_false (show ¬ 0 ≤ N from by omega)]; simp), (Below.refl _ _).alloc (Nat.le_refl _) _⟩
      · have he' : S.toList.isEmpty = false := by simpa using he
        clear he
        go_enter Tryz.func160, Tryz.ntmps160
        go_wp2_with fail
        go_ret
        exact ⟨ret_bool (by rw [HT.out]; simp [he']), (Below.refl _ _).alloc (Nat.le_refl _) _⟩
    · have HT : Hid (Tk.okB ⟨K, N, S⟩ = (decide (N = 0) && Lx.signL S.data.toList)) := by show Tk.okB _ = _; unfold Tk.okB; rw [if_neg k1, if_neg k2]
      have hkb : (K == 1) = false := beq_eq_false_iff_ne.2 k1
      have hkc : (K == 2) = false := beq_eq_false_iff_ne.2 k2
      clear k1 k2
      by_cases n0 : N = 0
      · have hnb : (N == 0) = true := beq_iff_eq.2 n0
        have HR : Hid (Tk.okB ⟨K, N, S⟩ = Lx.signL S.data.toList) := by show Tk.okB _ = _; rw [HT.out, decide_eq_true n0, Bool.true_and]
        clear n0
        go_enter Tryz.func160, Tryz.ntmps160
        go_wp2_with (go_at_call 203; refine (isSign_any S _).mono ?_; rintro e w' ⟨rfl, rfl⟩)
        go_ret
        exact ⟨ret_bool HR.out.symm, (Below.refl _ _).alloc (Nat.le_refl _) _⟩
      · have hnb : (N == 0) = false := beq_eq_false_iff_ne.2 n0
        have HR : Hid (Tk.okB ⟨K, N, S⟩ = false) := by show Tk.okB _ = _; rw [HT.out, decide_eq_false n0, Bool.false_and]
        clear n0
        go_enter Tryz.func160, Tryz.ntmps160
        go_wp2_with fail
        go_ret
        exact ⟨ret_bool HR.out.symm, (Below.refl _ _).alloc (Nat.le_refl _) _⟩

end Go.Proofs.YtndkhgakfodldaaGreatDoor

namespace Go.Proofs.YtndkhgakfodldaaGreatDoor
open Go.RowKit

/- A list of tokens lies in memory as a slice. -/
def Tk.fits (t : Tk) : Prop := t.text.size ≤ maxLen
structure TokCells (w : World) (b off : Nat) (ts : List Tk) : Prop where
  lt : b < w.heap.size
  kind : ∀ i (h : i < ts.length), w.cell? ⟨b, off + i * 3, none⟩ = some (.int .i64 ts[i].kind)
  num : ∀ i (h : i < ts.length), w.cell? ⟨b, off + i * 3 + 1, none⟩ = some (.int .i64 ts[i].n)
  text : ∀ i (h : i < ts.length), w.cell? ⟨b, off + i * 3 + 2, none⟩ = some (.string ts[i].text)
  fits : ∀ i (h : i < ts.length), ts[i].fits
theorem TokCells.below {B : Nat} {w w' : World} {b off : Nat} {ts : List Tk} (h : TokCells w b off ts) (hb : Below B w w') (hB : b < B) : TokCells w' b off ts :=
  ⟨Nat.lt_of_lt_of_le h.lt hb.size, fun i hi => (hb.cell (p := ⟨b, off + i * 3, none⟩) hB).trans (h.kind i hi), fun i hi => (hb.cell (p := ⟨b, off + i * 3 + 1, none⟩) hB).trans (h.num i hi), fun i hi => (hb.cell (p := ⟨b, off + i * 3 + 2, none⟩) hB).trans (h.text i hi), h.fits⟩
def kindB (t : Tk) : Bool := decide (1 ≤ t.kind) && decide (t.kind ≤ 3)
def checkN (ts : List Tk) : Int := if ts.all kindB then (if ts.all Tk.okB then (if 4096 < ts.length then 2 else 0) else 1) else 4

def ToksAt (w : World) (a : Option Addr) (ts : List Tk) : Prop := ts = [] ∨ ∃ b off, a = some ⟨b, off, none⟩ ∧ TokCells w b off ts
theorem ToksAt.later {w w' : World} {a : Option Addr} {ts : List Tk} (h : ToksAt w a ts) (hb : Below w.heap.size w w') : ToksAt w' a ts := by
  rcases h with h | ⟨b, off, e, h⟩
  · exact Or.inl h
  · exact Or.inr ⟨b, off, e, h.below hb h.lt⟩
theorem ToksAt.place {w : World} {a : Option Addr} {ts : List Tk} (h : ToksAt w a ts) {k : Nat} (hk : k < ts.length) : ∃ b off, a = some ⟨b, off, none⟩ ∧ TokCells w b off ts := by
  rcases h with h | h
  · subst h; simp at hk
  · exact h
theorem all_snoc {α : Type} (ts : List α) (p : α → Bool) (k : Nat) (h : k < ts.length) : (ts.take (k + 1)).all p = ((ts.take k).all p && p ts[k]) := by
  rw [List.take_succ_eq_append_getElem h, List.all_append]; simp
theorem all_not {α : Type} (ts : List α) (p : α → Bool) (k : Nat) (h : k < ts.length) (hp : p ts[k] = false) : ts.all p = false := by
  rw [List.all_eq_false]; exact ⟨ts[k], List.getElem_mem _, by simp [hp]⟩
theorem checkN_kind {ts : List Tk} (h : ts.all kindB = false) : checkN ts = 4 := by unfold checkN; rw [h]; rfl
theorem checkN_form {ts : List Tk} (h : ts.all kindB = true) (h1 : ts.all Tk.okB = false) : checkN ts = 1 := by unfold checkN; rw [h, h1]; rfl
theorem checkN_many {ts : List Tk} (h : ts.all kindB = true) (h1 : ts.all Tk.okB = true) (h2 : 4096 < ts.length) : checkN ts = 2 := by unfold checkN; rw [h, h1, if_pos rfl, if_pos rfl, if_pos h2]
theorem checkN_ok {ts : List Tk} (h : ts.all kindB = true) (h1 : ts.all Tk.okB = true) (h2 : ¬ 4096 < ts.length) : checkN ts = 0 := by unfold checkN; rw [h, h1, if_pos rfl, if_pos rfl, if_neg h2]

set_option maxRecDepth 100000 in
set_option maxHeartbeats 800000 in
theorem Check_any (a : Option Addr) (cap : Nat) (ts : List Tk) (w : World) (hT : ToksAt w a ts) (hl : ts.length ≤ 1000000000000000) :
    Calls Tryz.prog 116 #[.slice a ts.length cap] w fun e w' => e = .returned (.int .i64 (checkN ts)) ∧ Below w.heap.size w w' := by
  have HT : Hid (ToksAt w a ts) := hT
  clear hT
  go_enter Tryz.func116, Tryz.ntmps116
  go_wp2_with fail
  go_loopw [9, 4] (fun i _ wr => ∃ k : Nat, k ≤ ts.length ∧ i = .int .i64 k ∧ (ts.take k).all kindB = true ∧ Below w.heap.size w wr) (fun i _ _ => ts.length - (intOf i).toNat)
  case atStart => exact ⟨0, Nat.zero_le _, rfl, rfl, Below.refl _ _⟩
  case round =>
    obtain ⟨k, hk, rfl, hall, hb⟩ := hrel
    have HA : Hid ((ts.take k).all kindB = true) := hall
    clear hall
    by_cases hlt : k < ts.length
    · obtain ⟨b, off, rfl, hT⟩ := (HT.out.later hb).place hlt
      have hc0 := hT.kind k hlt
      have hc1 := hT.num k hlt
      have hc2 := hT.text k hlt
      have hlb := hT.lt
      clear hT
      have HS : Hid ((ts.take (k + 1)).all kindB = ((ts.take k).all kindB && kindB ts[k])) := all_snoc ts kindB k hlt
      by_cases hkb : 1 ≤ ts[k].kind ∧ ts[k].kind ≤ 3
      · obtain ⟨hkb1, hkb3⟩ := hkb
        have HK : Hid (kindB ts[k] = true) := by show kindB ts[k] = true; simp [kindB, hkb1, hkb3]
        go_wp2_with fail
        go_roundw
        case rel => exact ⟨k + 1, by omega, by go_num, by rw [HS.out, HA.out, HK.out]; rfl, hb.alloc hb.size _⟩
        case measure => simp [intOf]; omega
      · have HF : Hid (checkN ts = 4) := checkN_kind (all_not ts kindB k hlt (by simp [kindB]; omega))
        by_cases hk1 : ts[k].kind < 1
        · clear hkb
          go_wp2_with fail
          go_ret
          exact ⟨ret_int HF.out.symm, hb.alloc hb.size _⟩
        · have hk3 : 3 < ts[k].kind := by omega
          clear hkb
          go_wp2_with fail
          go_ret
          exact ⟨ret_int HF.out.symm, hb.alloc hb.size _⟩
    · have HK : Hid (ts.all kindB = true) := by
        have := HA.out
        rw [List.take_of_length_le (by omega)] at this
        exact this
      clear HA
      go_wp2_with fail
      go_loopw [24, 6] (fun i _ wr => ∃ k : Nat, k ≤ ts.length ∧ i = .int .i64 k ∧ (ts.take k).all Tk.okB = true ∧ Below w.heap.size w wr) (fun i _ _ => ts.length - (intOf i).toNat)
      case atStart => exact ⟨0, Nat.zero_le _, rfl, rfl, hb⟩
      case round =>
        obtain ⟨k', hk', rfl, hall, hb1⟩ := hrel
        have HA : Hid ((ts.take k').all Tk.okB = true) := hall
        clear hall
        by_cases hlt' : k' < ts.length
        · obtain ⟨b, off, rfl, hT⟩ := (HT.out.later hb1).place hlt'
          have hc0 := hT.kind k' hlt'
          have hc1 := hT.num k' hlt'
          have hc2 := hT.text k' hlt'
          have hfit := hT.fits k' hlt'
          have hlb := hT.lt
          clear hT
          have HS : Hid ((ts.take (k' + 1)).all Tk.okB = ((ts.take k').all Tk.okB && Tk.okB ts[k'])) := all_snoc ts Tk.okB k' hlt'
          by_cases hkb : Tk.okB ts[k'] = true
          · go_wp2_with (go_at_call 160; refine (isToken_any ts[k'] _ hfit).mono ?_; rintro e w' ⟨rfl, hb2⟩)
            go_roundw
            case rel => exact ⟨k' + 1, by omega, by go_num, by rw [HS.out, HA.out]; simp [hkb], (hb1.alloc hb1.size _).trans (hb2.mono (by have := hb1.size; simp; omega))⟩
            case measure => simp [intOf]; omega
          · have hkb' : Tk.okB ts[k'] = false := by simpa using hkb
            have HF : Hid (checkN ts = 1) := checkN_form HK.out (all_not ts Tk.okB k' hlt' hkb')
            clear hkb
            go_wp2_with (go_at_call 160; refine (isToken_any ts[k'] _ hfit).mono ?_; rintro e w' ⟨rfl, hb2⟩)
            go_ret
            exact ⟨ret_int HF.out.symm, (hb1.alloc hb1.size _).trans (hb2.mono (by have := hb1.size; simp; omega))⟩
        · have HO : Hid (ts.all Tk.okB = true) := by
            have := HA.out
            rw [List.take_of_length_le (by omega)] at this
            exact this
          clear HA
          by_cases hm : 4096 < ts.length
          · have HF : Hid (checkN ts = 2) := checkN_many HK.out HO.out hm
            go_wp2_with fail
            go_ret
            exact ⟨ret_int HF.out.symm, hb1⟩
          · have HF : Hid (checkN ts = 0) := checkN_ok HK.out HO.out hm
            go_wp2_with fail
            go_ret
            exact ⟨ret_int HF.out.symm, hb1⟩

end Go.Proofs.YtndkhgakfodldaaGreatDoor
