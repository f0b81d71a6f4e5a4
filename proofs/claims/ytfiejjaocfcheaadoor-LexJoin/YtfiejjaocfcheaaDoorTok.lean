/-
  The functions that make one token, tell its text or look whether it is right answer what the plain mathematics says; of what was there nothing changes.
-/
import Derived.Test.YtfiejjaocfcheaaDoorLeafc
namespace Go.Proofs.YtfiejjaocfcheaaDoor
open Go.RowKit

theorem ret_ib {a b : Int} {x y : Bool} (h1 : a = b) (h2 : x = y) : Ending.returned (.tuple #[.int .i64 a, .bool x]) = .returned (.tuple #[.int .i64 b, .bool y]) := by rw [h1, h2]
theorem beq_eq_decide (a b : List UInt8) : (a == b) = decide (a = b) := by
  rw [Bool.eq_iff_iff]; simp
set_option maxHeartbeats 400000 in
theorem numberOf_any (s : ByteArray) (w : World) (h0 : 0 < s.size) (hs : s.size ≤ maxLen) :
    Calls Tryd.prog 26 #[.string s] w fun e w' => ∃ k : Int, e = .returned (.tuple #[.int .i64 k, .bool (Lx.numOk s.data.toList)]) ∧ (Lx.numOk s.data.toList = true → k = Lx.valL s.data.toList) ∧ Below w.heap.size w w' := by
  unfold maxLen at hs
  by_cases h15 : 15 < s.size
  · have HN : Hid (Lx.numOk s.data.toList = false) := Lx.numOk_long _ (by rw [Lx.len_toList]; exact h15)
    go_enter Tryd.func26, Tryd.ntmps26
    go_wp2_with fail
    go_ret2
    exact ⟨0, by rw [HN.out]; rfl, (fun h => by rw [HN.out] at h; cases h), Below.refl _ _⟩
  · go_enter Tryd.func26, Tryd.ntmps26
    go_wp2_with fail
    go_loop [5, 4] (fun i n => ∃ k : Nat, k ≤ s.size ∧ i = .int .i64 k ∧ n = .int .i64 (Lx.valL (s.data.toList.take k)) ∧ (s.data.toList.take k).all Lx.digB = true ∧ Lx.valL (s.data.toList.take k) < 1000000000000000) (fun i _ => s.size - (intOf i).toNat)
    case atStart => exact ⟨0, Nat.zero_le _, rfl, rfl, rfl, by simp [Lx.valL]⟩
    case round =>
      obtain ⟨k, hk, rfl, rfl, hall, hv⟩ := hrel
      have HA : Hid ((s.data.toList.take k).all Lx.digB = true) := hall
      clear hall
      by_cases hlt : k < s.size
      · by_cases hd : Lx.digB s[k] = true
        · have HS : Hid ((s.data.toList.take (k + 1)).all Lx.digB = ((s.data.toList.take k).all Lx.digB && Lx.digB s[k])) := Lx.all_take_snoc s k hlt Lx.digB
          have HV : Hid (Lx.valL (s.data.toList.take (k + 1)) = 10 * Lx.valL (s.data.toList.take k) + Lx.dv s[k]) := Lx.val_take_snoc s k hlt
          have HB : Hid (Lx.valL (s.data.toList.take (k + 1)) < 1000000000000000) := by
            have hb := Lx.valL_bound (s.data.toList.take (k + 1)) (by rw [HS.out, HA.out, hd]; rfl)
            have hl : (s.data.toList.take (k + 1)).length ≤ 15 := by rw [List.length_take]; omega
            have hp : 10 ^ (s.data.toList.take (k + 1)).length ≤ 10 ^ 15 := Nat.pow_le_pow_right (by omega) hl
            have e15 : (10 : Nat) ^ 15 = 1000000000000000 := rfl
            show _ < _
            omega
          obtain ⟨hr0, hr1⟩ := Lx.dig_range _ hd
          generalize hV : Lx.valL (s.data.toList.take k) = V at *
          have HVV : Hid (Lx.valL (s.data.toList.take k) = V) := hV
          clear hV
          go_wp2_with (go_at_call 38; refine (digit_any _ _).mono ?_; rintro e w' ⟨rfl, rfl⟩)
          go_round
          case rel => exact ⟨k + 1, by omega, by go_num, by rw [HV.out]; unfold Lx.dv; go_num, by rw [HS.out, HA.out]; simp [hd], HB.out⟩
          case measure => simp [intOf]; omega
        · have hd' : Lx.digB s[k] = false := by simpa using hd
          clear hd
          have HN : Hid (Lx.numOk s.data.toList = false) := Lx.numOk_nondigit _ (Lx.not_all s k hlt _ hd')
          go_wp2_with (go_at_call 38; refine (digit_any _ _).mono ?_; rintro e w' ⟨rfl, rfl⟩)
          go_ret2
          exact ⟨0, by rw [HN.out]; rfl, (fun h => by rw [HN.out] at h; cases h), Below.refl _ _⟩
      · obtain rfl : k = s.size := by omega
        have hT : s.data.toList.take s.size = s.data.toList := List.take_of_length_le (by rw [Lx.len_toList]; exact Nat.le_refl _)
        rw [hT] at HA hv ⊢
        clear hT
        have HN : Hid (Lx.numOk s.data.toList = (decide (Lx.valL s.data.toList ≤ 1099511627775) && decide (Lib.decDigits (Lx.valL s.data.toList) = s.data.toList))) :=
          Lx.numOk_digits _ (fun e => by have := Lx.len_toList s; rw [e] at this; simp at this; omega) HA.out
        generalize hV : Lx.valL s.data.toList = V at *
        have HVV : Hid (Lx.valL s.data.toList = V) := hV
        clear hV
        by_cases hm : V ≤ 1099511627775
        · go_wp2_with fail
          refine (Digits_any V _ (by omega)).mono ?_
          rintro e w' ⟨rfl, hb⟩
          go_wp2_with fail
          go_ret2
          refine ⟨V, ret_ib rfl ?_, fun _ => by rw [HVV.out], hb⟩
          rw [HN.out, Lib.toList_data, Lib.toList_data, strOf_list, decide_eq_true hm, Bool.true_and]
          exact beq_eq_decide _ _
        · go_wp2_with fail
          go_ret2
          exact ⟨V, by rw [HN.out]; simp; omega, fun _ => by rw [HVV.out], Below.refl _ _⟩

/- A token as the program holds it. -/
structure Tk where
  kind : Int
  n : Int
  text : ByteArray
def Tk.val (t : Tk) : Value := .agg #[.int .i64 t.kind, .int .i64 t.n, .string t.text]
def tokOf (s : ByteArray) : Option Tk :=
  if Lx.signL s.data.toList then some ⟨3, 0, s⟩ else if Lx.nameB s.data.toList then some ⟨1, 0, s⟩ else if Lx.numOk s.data.toList then some ⟨2, Lx.valL s.data.toList, ⟨#[]⟩⟩ else none

set_option maxHeartbeats 400000 in
theorem Clone_any (s : ByteArray) (w : World) (hs : s.size ≤ 281474976710656) :
    Calls Tryd.prog 36 #[.string s] w fun e w' => e = .returned (.string s) ∧ Below w.heap.size w w' := by
  go_enter Tryd.func36, Tryd.ntmps36
  go_wp2_with (go_at_call 46; refine (Tryd.stringslite_Clone s _ hs).mono ?_; rintro e w' ⟨rfl, hb⟩)
  go_ret
  exact ⟨rfl, hb⟩

set_option maxHeartbeats 400000 in
theorem token_any (s : ByteArray) (w : World) (hs : s.size ≤ maxLen) :
    Calls Tryd.prog 35 #[.string s] w fun e w' => ((∃ t, tokOf s = some t ∧ e = .returned t.val) ∨ (tokOf s = none ∧ e = .panicked errPanic)) ∧ Below w.heap.size w w' := by
  by_cases h1 : Lx.signL s.data.toList = true
  · have HT : Hid (tokOf s = some ⟨3, 0, s⟩) := by show tokOf s = _; unfold tokOf; rw [if_pos h1]
    go_enter Tryd.func35, Tryd.ntmps35
    go_wp2_with (go_at_call 32; refine (isSign_any s _).mono ?_; rintro e w' ⟨rfl, rfl⟩)
    exact bodyPost_ret (v := Tk.val ⟨3, 0, s⟩) (by simp [results, Tryd.results35, go_sem, Tk.val]) rfl ⟨Or.inl ⟨_, HT.out, rfl⟩, (Below.refl _ _).alloc (Nat.le_refl _) _⟩
  · have h1' : Lx.signL s.data.toList = false := by simpa using h1
    clear h1
    by_cases h2 : Lx.nameB s.data.toList = true
    · have HT : Hid (tokOf s = some ⟨1, 0, s⟩) := by show tokOf s = _; unfold tokOf; rw [if_neg (by simp [h1']), if_pos h2]
      go_enter Tryd.func35, Tryd.ntmps35
      go_wp2_with (first | (go_at_call 32; refine (isSign_any s _).mono ?_; rintro e w' ⟨rfl, rfl⟩) | (go_at_call 31; refine (isName_any s _ hs).mono ?_; rintro e w' ⟨rfl, rfl⟩))
      exact bodyPost_ret (v := Tk.val ⟨1, 0, s⟩) (by simp [results, Tryd.results35, go_sem, Tk.val]) rfl ⟨Or.inl ⟨_, HT.out, rfl⟩, (Below.refl _ _).alloc (Nat.le_refl _) _⟩
    · have h2' : Lx.nameB s.data.toList = false := by simpa using h2
      clear h2
      by_cases h3 : Lx.numOk s.data.toList = true
      · have HT : Hid (tokOf s = some ⟨2, Lx.valL s.data.toList, ⟨#[]⟩⟩) := by show tokOf s = _; unfold tokOf; rw [if_neg (by simp [h1']), if_neg (by simp [h2']), if_pos h3]
        have hN := numEnd_yes h3
        have HC : Hid (∀ w : World, Calls Tryd.prog 45 #[.string s] w fun e w' => e = .returned (.int .i64 (Lx.valL s.data.toList)) ∧ w' = w) := fun w => by rw [← hN]; exact number_any s w hs
        clear hN h3
        go_enter Tryd.func35, Tryd.ntmps35
        go_wp2_with (first | (go_at_call 32; refine (isSign_any s _).mono ?_; rintro e w' ⟨rfl, rfl⟩) | (go_at_call 31; refine (isName_any s _ hs).mono ?_; rintro e w' ⟨rfl, rfl⟩) | (go_at_call 45; refine (HC.out _).mono ?_; rintro e w' ⟨rfl, rfl⟩))
        exact bodyPost_ret (v := Tk.val ⟨2, Lx.valL s.data.toList, ⟨#[]⟩⟩) (by simp [results, Tryd.results35, go_sem, Tk.val]) rfl ⟨Or.inl ⟨_, HT.out, rfl⟩, (Below.refl _ _).alloc (Nat.le_refl _) _⟩
      · have h3' : Lx.numOk s.data.toList = false := by simpa using h3
        have HT : Hid (tokOf s = none) := by show tokOf s = _; unfold tokOf; rw [if_neg (by simp [h1']), if_neg (by simp [h2']), if_neg h3]
        have hN := numEnd_no h3'
        have HC : Hid (∀ w : World, Calls Tryd.prog 45 #[.string s] w fun e w' => e = .panicked errPanic ∧ w' = w) := fun w => by rw [← hN]; exact number_any s w hs
        clear hN h3 h3'
        go_enter Tryd.func35, Tryd.ntmps35
        go_wp2_with (first | (go_at_call 32; refine (isSign_any s _).mono ?_; rintro e w' ⟨rfl, rfl⟩) | (go_at_call 31; refine (isName_any s _ hs).mono ?_; rintro e w' ⟨rfl, rfl⟩) | (go_at_call 45; refine (HC.out _).mono ?_; rintro e w' ⟨rfl, rfl⟩))
        exact ⟨rfl, Or.inr ⟨HT.out, rfl⟩, (Below.refl _ _).alloc (Nat.le_refl _) _⟩

/- The library's table of powers of ten, as it is laid when the program begins. -/
def Tab (w : World) : Prop := Lib.TabIs Tryd.prog w "internal/strconv.uint64pow10" .u64 Lib.pow10Tab ∧ 0 < w.heap.size
theorem pow10_at : Tryd.prog.globalNamed "internal/strconv.uint64pow10" = some 0 := by kernel_rfl
theorem Tab.below {B : Nat} {w w' : World} (h : Tab w) (hB : 0 < B) (hb : Below B w w') : Tab w' :=
  ⟨var?_below hb pow10_at hB h.1, Nat.lt_of_lt_of_le h.2 hb.size⟩
theorem Tab.later {w w' : World} (h : Tab w) (hb : Below w.heap.size w w') : Tab w' := h.below h.2 hb

def Tk.txt (t : Tk) : ByteArray := if t.kind = 2 then strOf (Lib.decDigits t.n.toNat) else t.text
def Tk.inB (t : Tk) : Prop := t.kind = 2 → 0 ≤ t.n ∧ t.n ≤ 1099511627775

set_option maxHeartbeats 400000 in
theorem TokText_any (t : Tk) (w : World) (ht : t.inB) :
    Calls Tryd.prog 21 #[t.val] w fun e w' => e = .returned (.string t.txt) ∧ Below w.heap.size w w' := by
  obtain ⟨K, N, S⟩ := t
  simp only [Tk.val]
  by_cases hk : K = 2
  · obtain ⟨h0, h1⟩ : 0 ≤ N ∧ N ≤ 1099511627775 := ht hk
    have HT : Hid (Tk.txt ⟨K, N, S⟩ = strOf (Lib.decDigits N.toNat)) := if_pos hk
    have hkb : (K == 2) = true := beq_iff_eq.2 hk
    clear hk ht
    obtain ⟨n, rfl⟩ := Int.eq_ofNat_of_zero_le h0
    rw [Int.toNat_natCast] at HT
    go_enter Tryd.func21, Tryd.ntmps21
    go_wp2_with (go_at_call 30; refine (Digits_any n _ (by omega)).mono ?_; rintro e w' ⟨rfl, hb⟩)
    go_ret
    exact ⟨ret_str HT.out.symm, ((Below.refl _ _).alloc (Nat.le_refl _) _).trans (hb.mono (by simp))⟩
  · have HT : Hid (Tk.txt ⟨K, N, S⟩ = S) := if_neg hk
    have hkb : (K == 2) = false := beq_eq_false_iff_ne.2 hk
    clear hk ht
    go_enter Tryd.func21, Tryd.ntmps21
    go_wp2_with fail
    go_ret
    exact ⟨ret_str HT.out.symm, (Below.refl _ _).alloc (Nat.le_refl _) _⟩

set_option maxHeartbeats 400000 in
theorem tokenText_any (t : Tk) (w : World) (ht : t.inB) (hT : Tab w) :
    Calls Tryd.prog 17 #[t.val] w fun e w' => e = .returned (.string t.txt) ∧ Below w.heap.size w w' := by
  obtain ⟨K, N, S⟩ := t
  simp only [Tk.val]
  by_cases hk : K = 2
  · obtain ⟨h0, h1⟩ : 0 ≤ N ∧ N ≤ 1099511627775 := ht hk
    have HT : Hid (Tk.txt ⟨K, N, S⟩ = strOf (Lib.decDigits N.toNat)) := if_pos hk
    have hkb : (K == 2) = true := beq_iff_eq.2 hk
    clear hk ht
    obtain ⟨n, rfl⟩ := Int.eq_ofNat_of_zero_le h0
    rw [Int.toNat_natCast] at HT
    have hC : ∀ w : World, Tab w → Calls Tryd.prog 29 #[.int .i64 n] w fun e w' => e = .returned (.string (strOf (Lib.decDigits n))) ∧ Below w.heap.size w w' := fun w hT => by
      refine (Tryd.strconv_Itoa n (by omega) (by omega) w hT.1).mono ?_
      rintro e w' ⟨rfl, k, os, rfl⟩
      rw [Lib.itoa_nonneg]
      exact ⟨rfl, ⟨rfl, rfl, rfl, by simp [Sort.grow, World.drewN], fun j hj => by simp [Sort.grow, World.drewN, Array.getElem?_append_left hj]⟩⟩
    have HC : Hid (∀ w : World, Tab w → Calls Tryd.prog 29 #[.int .i64 n] w fun e w' => e = .returned (.string (strOf (Lib.decDigits n))) ∧ Below w.heap.size w w') := hC
    clear hC
    go_enter Tryd.func17, Tryd.ntmps17
    go_wp2_with fail
    refine (HC.out _ ?_).mono ?_
    · exact hT.later ((Below.refl _ _).alloc (Nat.le_refl _) _)
    rintro e w' ⟨rfl, hb⟩
    go_wp2_with fail
    go_ret
    exact ⟨ret_str HT.out.symm, ((Below.refl _ _).alloc (Nat.le_refl _) _).trans (hb.mono (by simp))⟩
  · have HT : Hid (Tk.txt ⟨K, N, S⟩ = S) := if_neg hk
    have hkb : (K == 2) = false := beq_eq_false_iff_ne.2 hk
    clear hk ht
    go_enter Tryd.func17, Tryd.ntmps17
    go_wp2_with fail
    go_ret
    exact ⟨ret_str HT.out.symm, (Below.refl _ _).alloc (Nat.le_refl _) _⟩

end Go.Proofs.YtfiejjaocfcheaaDoor
