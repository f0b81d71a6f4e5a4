/-
  The program's look at one token and the document's look at it answer alike: what the plain mathematics says.
-/
import Derived.Test.YtplkbngnnaogkaaTok
namespace Go.Proofs.Ytplkbngnnaogkaa
open Go.RowKit

def Tk.okB (t : Tk) : Bool :=
  if t.kind = 1 then decide (t.n = 0) && Lx.nameB t.text.data.toList
  else if t.kind = 2 then t.text.toList.isEmpty && (decide (0 ≤ t.n) && decide (t.n ≤ 1099511627775))
  else decide (t.n = 0) && Lx.signL t.text.data.toList
theorem isEmpty_false {s : ByteArray} (h : ¬ s.toList.isEmpty = true) : 0 < s.size := by
  rcases Nat.eq_zero_or_pos s.size with h0 | h0
  · have : s.data.toList = [] := List.eq_nil_of_length_eq_zero (by rw [Lx.len_toList]; exact h0)
    rw [Lib.toList_data, this] at h; simp at h
  · exact h0

set_option maxRecDepth 100000 in
set_option maxHeartbeats 800000 in
theorem isToken_any (t : Tk) (w : World) (hs : t.text.size ≤ maxLen) :
    Calls Try.prog 94 #[t.val] w fun e w' => e = .returned (.bool t.okB) ∧ Below w.heap.size w w' := by
  obtain ⟨K, N, S⟩ := t
  simp only [Tk.val] at *
  by_cases k1 : K = 1
  · have HT : Hid (Tk.okB ⟨K, N, S⟩ = (decide (N = 0) && Lx.nameB S.data.toList)) := if_pos k1
    have hkb : (K == 1) = true := beq_iff_eq.2 k1
    clear k1
    by_cases n0 : N = 0
    · have hnb : (N == 0) = true := beq_iff_eq.2 n0
      have HR : Hid (Tk.okB ⟨K, N, S⟩ = Lx.nameB S.data.toList) := by show Tk.okB _ = _; rw [HT.out, decide_eq_true n0, Bool.true_and]
      clear n0
      go_enter Try.func94, Try.ntmps94
      go_wp2_with (go_at_call 97; refine (isName_any S _ hs).mono ?_; rintro e w' ⟨rfl, rfl⟩)
      go_ret
      exact ⟨ret_bool HR.out.symm, (Below.refl _ _).alloc (Nat.le_refl _) _⟩
    · have hnb : (N == 0) = false := beq_eq_false_iff_ne.2 n0
      have HR : Hid (Tk.okB ⟨K, N, S⟩ = false) := by show Tk.okB _ = _; rw [HT.out, decide_eq_false n0, Bool.false_and]
      clear n0
      go_enter Try.func94, Try.ntmps94
      go_wp2_with fail
      go_ret
      exact ⟨ret_bool HR.out.symm, (Below.refl _ _).alloc (Nat.le_refl _) _⟩
  · by_cases k2 : K = 2
    · have HT : Hid (Tk.okB ⟨K, N, S⟩ = (S.toList.isEmpty && (decide (0 ≤ N) && decide (N ≤ 1099511627775)))) := by show Tk.okB _ = _; unfold Tk.okB; rw [if_neg k1, if_pos k2]
      have hkb : (K == 1) = false := beq_eq_false_iff_ne.2 k1
      have hkc : (K == 2) = true := beq_iff_eq.2 k2
      clear k1 k2
      by_cases he : S.toList.isEmpty = true
      · by_cases h0 : 0 ≤ N
        · go_enter Try.func94, Try.ntmps94
          go_wp2_with fail
          go_ret
          exact ⟨ret_bool (by rw [HT.out]; simp [he, h0]), (Below.refl _ _).alloc (Nat.le_refl _) _⟩
        · go_enter Try.func94, Try.ntmps94
          go_wp2_with fail
          go_ret
          exact ⟨ret_bool (by rw [HT.out, decide_eq_false (show ¬ 0 ≤ N from by omega)]; simp), (Below.refl _ _).alloc (Nat.le_refl _) _⟩
      · have he' : S.toList.isEmpty = false := by simpa using he
        clear he
        go_enter Try.func94, Try.ntmps94
        go_wp2_with fail
        go_ret
        exact ⟨ret_bool (by rw [HT.out]; simp [he']), (Below.refl _ _).alloc (Nat.le_refl _) _⟩
    · have HT : Hid (Tk.okB ⟨K, N, S⟩ = (decide (N = 0) && Lx.signL S.data.toList)) := by show Tk.okB _ = _; unfold Tk.okB; rw [if_neg k1, if_neg k2]
      have hkb : (K == 1) = false := beq_eq_false_iff_ne.2 k1
      have hkc : (K == 2) = false := beq_eq_false_iff_ne.2 k2
      clear k1 k2
      by_cases n0 : N = 0
      · have hnb : (N == 0) = true := beq_iff_eq.2 n0
        have HR : Hid (Tk.okB ⟨K, N, S⟩ = Lx.signL S.data.toList) := by show Tk.okB _ = _; rw [HT.out, decide_eq_true n0, Bool.true_and]
        clear n0
        go_enter Try.func94, Try.ntmps94
        go_wp2_with (go_at_call 98; refine (isSign_any S _).mono ?_; rintro e w' ⟨rfl, rfl⟩)
        go_ret
        exact ⟨ret_bool HR.out.symm, (Below.refl _ _).alloc (Nat.le_refl _) _⟩
      · have hnb : (N == 0) = false := beq_eq_false_iff_ne.2 n0
        have HR : Hid (Tk.okB ⟨K, N, S⟩ = false) := by show Tk.okB _ = _; rw [HT.out, decide_eq_false n0, Bool.false_and]
        clear n0
        go_enter Try.func94, Try.ntmps94
        go_wp2_with fail
        go_ret
        exact ⟨ret_bool HR.out.symm, (Below.refl _ _).alloc (Nat.le_refl _) _⟩

end Go.Proofs.Ytplkbngnnaogkaa
