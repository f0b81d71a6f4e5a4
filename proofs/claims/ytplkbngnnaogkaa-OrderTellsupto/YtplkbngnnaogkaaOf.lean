/-
  The small functions of the law: lists that are the same, names in a list, numbers that are chosen.
-/
import Derived.Test.YtplkbngnnaogkaaOe
namespace Go.Proofs.Ytplkbngnnaogkaa
open Go.RowKit Go.Maps Go.Sort Go.WideMaps

theorem IntsIn.at {w : World} {a : Option Addr} {n cap : Nat} {l : List Int} (h : IntsIn w (.slice a n cap) l) {j : Nat} (hj : j < l.length) : ∃ b, a = some ⟨b, 0, none⟩ ∧ b < w.heap.size ∧ w.cell? ⟨b, j, none⟩ = some (.int .i64 l[j]) := by
  obtain ⟨a', cap', e, h⟩ := h
  injection e with e1 e2 e3
  subst e1
  rcases h with h | ⟨b, h1, h2, h3⟩
  · subst h; simp at hj
  · exact ⟨b, h1, h2, h3 j hj⟩
theorem IntsIn.drewN {w : World} {v : Value} {l : List Int} (h : IntsIn w v l) (m : Nat) : IntsIn (w.drewN m) v l := h
theorem StrsIn.drewN {w : World} {v : Value} {l : List Nm} (h : StrsIn w v l) (m : Nat) : StrsIn (w.drewN m) v l := h
theorem below_drewN {B : Nat} {a w : World} (h : Below B a w) (m : Nat) : Below B a (w.drewN m) := ⟨h.os, h.tape, h.output, h.size, h.block⟩
set_option maxRecDepth 100000 in
set_option maxHeartbeats 800000 in
theorem SameInts_same (u v : Value) (l : List Int) (w : World) (ha : IntsIn w u l) (hb : IntsIn w v l) (hl : l.length ≤ 1000) :
    Calls Try.prog 11 #[u, v] w fun e w' => e = .returned (.bool true) ∧ Below w.heap.size w w' := by
  have HA := hid ha
  have HB := hid hb
  obtain ⟨a, c1, rfl, hx⟩ := ha
  obtain ⟨b, c2, rfl, hy⟩ := hb
  clear hx hy
  go_enter Try.func11, Try.ntmps11
  go_wp2_with fail
  go_loopw [5] (fun i wr => ∃ k m : Nat, k ≤ l.length ∧ i = .int .i64 k ∧ wr = w.drewN m) (fun i _ => l.length - (intOf i).toNat)
  case atStart => exact ⟨0, 0, Nat.zero_le _, rfl, rfl⟩
  case round =>
    obtain ⟨k, m, hk, rfl, rfl⟩ := hrel
    by_cases hlt : k < l.length
    · obtain ⟨b1, rfl, hl1, hc0⟩ := (HA.out.drewN m).at hlt
      obtain ⟨b2, rfl, hl2, hd0⟩ := (HB.out.drewN m).at hlt
      generalize hW : w.drewN m = W at *
      have HW := hid hW
      clear hW
      go_wp2_with fail
      go_quiet ((fail))
      go_wp2_with fail
      go_roundw
      case rel => exact ⟨k + 1, m + nq, by omega, by go_num, by rw [← HW.out, World.drewN_drewN]⟩
      case measure => simp [intOf]; omega
    · go_wp2_with fail
      go_ret
      exact ⟨rfl, below_drewN (Below.refl _ _) m⟩
set_option maxRecDepth 100000 in
set_option maxHeartbeats 800000 in
theorem SameTexts_same (u v : Value) (l : List Nm) (w : World) (ha : StrsIn w u l) (hb : StrsIn w v l) (hl : l.length ≤ 1000) :
    Calls Try.prog 12 #[u, v] w fun e w' => e = .returned (.bool true) ∧ Below w.heap.size w w' := by
  have HA := hid ha
  have HB := hid hb
  obtain ⟨a, c1, rfl, hx⟩ := ha
  obtain ⟨b, c2, rfl, hy⟩ := hb
  clear hx hy
  go_enter Try.func12, Try.ntmps12
  go_wp2_with fail
  go_loopw [5] (fun i wr => ∃ k m : Nat, k ≤ l.length ∧ i = .int .i64 k ∧ wr = w.drewN m) (fun i _ => l.length - (intOf i).toNat)
  case atStart => exact ⟨0, 0, Nat.zero_le _, rfl, rfl⟩
  case round =>
    obtain ⟨k, m, hk, rfl, rfl⟩ := hrel
    by_cases hlt : k < l.length
    · obtain ⟨b1, rfl, hl1, hc0⟩ := (HA.out.drewN m).at hlt
      obtain ⟨b2, rfl, hl2, hd0⟩ := (HB.out.drewN m).at hlt
      generalize hW : w.drewN m = W at *
      have HW := hid hW
      clear hW
      generalize strOf l[k] = sk at *
      go_wp2_with fail
      go_quiet ((fail))
      go_wp2_with fail
      go_roundw
      case rel => exact ⟨k + 1, m + nq, by omega, by go_num, by rw [← HW.out, World.drewN_drewN]⟩
      case measure => simp [intOf]; omega
    · go_wp2_with fail
      go_ret
      exact ⟨rfl, below_drewN (Below.refl _ _) m⟩
theorem str_eq (s t : ByteArray) : (s.toList == t.toList) = (t.data.toList == s.data.toList) := by
  rw [Lib.toList_data, Lib.toList_data, Bool.eq_iff_iff]; simp only [beq_iff_eq]; exact ⟨Eq.symm, Eq.symm⟩
set_option maxRecDepth 100000 in
set_option maxHeartbeats 800000 in
theorem has_any (v : Value) (l : List Nm) (x : ByteArray) (w : World) (ha : StrsIn w v l) (hl : l.length ≤ 1000) :
    Calls Try.prog 14 #[v, .string x] w fun e w' => e = .returned (.bool (l.contains x.data.toList)) ∧ w' = w := by
  have HA := hid ha
  obtain ⟨a, c1, rfl, hx⟩ := ha
  clear hx
  go_enter Try.func14, Try.ntmps14
  go_wp2_with fail
  go_loopw [5] (fun i wr => ∃ k : Nat, k ≤ l.length ∧ i = .int .i64 k ∧ (l.take k).contains x.data.toList = false ∧ wr = w) (fun i _ => l.length - (intOf i).toNat)
  case atStart => exact ⟨0, Nat.zero_le _, rfl, rfl, rfl⟩
  case round =>
    obtain ⟨k, hk, rfl, hc, rfl⟩ := hrel
    have HC := hid hc
    clear hc
    by_cases hlt : k < l.length
    · obtain ⟨b1, rfl, hl1, hc0⟩ := HA.out.at hlt
      have HS : Hid ((l.take (k + 1)).contains x.data.toList = ((l.take k).contains x.data.toList || (x.data.toList == l[k]))) := by
        show _ = _
        rw [List.take_succ_eq_append_getElem hlt, List.contains_append]; simp only [List.contains_cons, List.contains_nil, Bool.or_false]
      have HE : Hid (((strOf l[k]).toList == x.toList) = (x.data.toList == l[k])) := by
        show _ = _
        rw [str_eq, strOf_list]
      cases he : ((strOf l[k]).toList == x.toList) with
      | true =>
        have HT : Hid (l.contains x.data.toList = true) := by
          have h1 := HE.out
          rw [he] at h1
          have h2 : x.data.toList = l[k] := by simpa using h1.symm
          show _ = _
          rw [h2]; simp
        generalize strOf l[k] = sk at *
        go_wp2_with fail
        go_ret
        exact ⟨ret_bool HT.out.symm, rfl⟩
      | false =>
        have HT : Hid ((l.take (k + 1)).contains x.data.toList = false) := by
          show _ = _
          rw [HS.out, HC.out, ← HE.out, he]; rfl
        clear HS HE
        generalize strOf l[k] = sk at *
        go_wp2_with fail
        go_roundw
        case rel => exact ⟨k + 1, by omega, by go_num, HT.out, by first | rfl | trivial⟩
        case measure => simp [intOf]; omega
    · have HT : Hid (l.contains x.data.toList = false) := by
        have := HC.out
        rw [List.take_of_length_le (by omega)] at this
        exact this
      go_wp2_with fail
      go_ret
      exact ⟨ret_bool HT.out.symm, rfl⟩
set_option maxRecDepth 100000 in
set_option maxHeartbeats 400000 in
theorem choose_any (n : Int) (m : Nat) (w : World) (h0 : -9223372036854775808 ≤ n) (h1 : n ≤ 9223372036854775807) (hm : 0 < m) (hm2 : m ≤ 1000) :
    Calls Try.prog 13 #[.int .i64 n, .int .i64 m] w fun e w' => ∃ k : Nat, k < m ∧ e = .returned (.int .i64 k) ∧ w' = w := by
  have hc : Calls Try.prog 13 #[.int .i64 n, .int .i64 m] w fun en w' => (∃ k : Int, 0 ≤ k ∧ k < (m : Int) ∧ en = .returned (.int .i64 k)) ∧ w' = w := by
    by_cases h : n < 0
    · go_enter Try.func13, Try.ntmps13
      go_wp2_with fail
      go_ret
      have e : -(n + 1).tmod m = (-(n + 1)) % m := by rw [← Int.neg_tmod, Int.tmod_eq_emod_of_nonneg (by omega)]
      exact ⟨⟨_, by rw [e]; exact Int.emod_nonneg _ (by omega), by rw [e]; exact Int.emod_lt_of_pos _ (by omega), rfl⟩, rfl⟩
    · go_enter Try.func13, Try.ntmps13
      go_wp2_with fail
      go_ret
      exact ⟨⟨_, Int.emod_nonneg _ (by omega), Int.emod_lt_of_pos _ (by omega), rfl⟩, rfl⟩
  refine hc.mono ?_
  rintro e w' ⟨⟨k, k0, k1, rfl⟩, rfl⟩
  exact ⟨k.toNat, by omega, by rw [Int.toNat_of_nonneg k0], rfl⟩
/- Modules that are written out: names and uses alone. -/
def bare (nm : List UInt8) (us : List (List UInt8)) : Mo := ⟨strOf nm, us.map strOf, [], [], []⟩
def threeL : List Mo := [bare [99] [[98], [97]], bare [98] [[97]], bare [97] []]
def roundL : List Mo := [bare [97] [[98]], bare [98] [[97]]]
theorem sort_is {l l' : List Nm} (hp : l.Perm l') (hs : l'.Pairwise (fun a b => Og.le a b = true)) : l.mergeSort Og.le = l' := by
  exact (mergeSort_of_perm hp).trans (List.mergeSort_of_pairwise hs)
theorem three_ord : ordE threeL = 0 := by kernel_rfl
theorem round_ord : ordE roundL = 0 := by kernel_rfl
theorem three_ns : nsL threeL = [[97], [98], [99]] := sort_is (by decide) (by decide)
theorem round_ns : nsL roundL = [[97], [98]] := sort_is (by decide) (by decide)
theorem three_sort : sortL threeL = some [[97], [98], [99]] := by unfold sortL; rw [three_ns]; decide
theorem round_sort : sortL roundL = none := by unfold sortL; rw [round_ns]; decide
theorem three_ix : ([[97], [98], [99]] : List Nm).map (ixL threeL) = [2, 1, 0] := by decide
theorem three_needs {l : List Nm} (h : NeedsIs threeL [99] l) : l = [[97], [98]] := by
  have hr : ∀ x, Og.Reach (uL threeL) [99] x → x = [97] ∨ x = [98] := by
    intro x hx
    induction hx with
    | base hu =>
      have e : uL threeL [99] = [[98], [97]] := by decide
      rw [e] at hu
      simp at hu
      exact hu.symm
    | step _ hu ih =>
      rcases ih with rfl | rfl
      · have e : uL threeL [97] = [] := by decide
        rw [e] at hu
        cases hu
      · have e : uL threeL [98] = [[97]] := by decide
        rw [e] at hu
        simp at hu
        exact Or.inl hu
  have e : uL threeL [99] = [[98], [97]] := by decide
  have hp : l.Perm [[97], [98]] := by
    refine (List.perm_ext_iff_of_nodup h.need.nodup (by decide)).2 fun x => ?_
    constructor
    · intro hx
      rcases hr x (h.need.reach x hx) with rfl | rfl <;> simp
    · intro hx
      simp at hx
      rcases hx with rfl | rfl
      · exact h.need.mine _ (by rw [e]; simp)
      · exact h.need.mine _ (by rw [e]; simp)
  obtain ⟨N, hN⟩ := h.sort
  have hs : l.mergeSort Og.le = [[97], [98]] := sort_is hp (by decide)
  have hl : l.Pairwise (fun a b => Og.le a b = true) := by
    rw [hN]
    exact List.pairwise_mergeSort (fun a b c h1 h2 => by simp only [Og.le, decide_eq_true_eq] at *; exact List.le_trans h1 h2) (fun a b => by simp only [Og.le, Bool.or_eq_true, decide_eq_true_eq]; exact List.le_total a b) N
  rw [← hs]
  exact (List.mergeSort_of_pairwise hl).symm
end Go.Proofs.Ytplkbngnnaogkaa
