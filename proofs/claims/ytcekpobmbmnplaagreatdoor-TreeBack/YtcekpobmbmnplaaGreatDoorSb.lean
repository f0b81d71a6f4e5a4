/-
  The writer's small calls: words and signs, names that may have a module, an index, arguments.
-/
import Derived.Test.YtcekpobmbmnplaaGreatDoorSa
namespace Go.Proofs.YtcekpobmbmnplaaGreatDoor
open Go.RowKit Go.Shelf

theorem pk {t : ByteArray} (h : Lx.headLet t.data.toList = Lx.nameB t.data.toList) : pTk t = kTk t := by unfold pTk kTk; rw [h]
theorem pn {t : ByteArray} (h : nameOk t = true) : pTk t = wTk t := by
  unfold nameOk Lx.nameB at h
  simp at h
  unfold pTk wTk
  rw [h.2.1.1]; rfl
theorem name_fit {t : ByteArray} (h : nameOk t = true) : 0 < t.size ∧ t.size ≤ maxLen := by
  refine ⟨name_pos h, ?_⟩
  unfold nameOk Lx.nameB at h
  simp at h
  have := h.2.1.2
  have e := Lx.len_toList t
  unfold maxLen
  simp at e
  omega
def WEnd (b : Nat) (ts : List Tk) (v : Value) (W : World) (d : List Tk) (e : Ending) (W' : World) : Prop := ∃ v', e = .returned (.tuple #[]) ∧ Wr b (ts ++ d) v' W' ∧ WK b v v' W W'
theorem put1 (b n : Nat) (t : ByteArray) (ts : List Tk) (v : Value) (W : World) (hn : n = W.heap.size) (h : Wr b ts v W) (hp : 0 < t.size ∧ t.size ≤ maxLen) (hl : ts.length + 1 ≤ 4000000000000) :
    Calls Tryz.prog 59 #[.pointer (some ⟨b, 0, none⟩), .slice (some ⟨n, 0, none⟩) 1 1] (W.alloc (.cells #[.string t] 9)) (WEnd b ts v W [pTk t]) := by
  subst hn
  refine (put_any b W.heap.size 1 [t] ts v _ (h.alloc _) (by simp) (h.own (Nat.le_refl _)) ?_ (by simpa using hp) (by simp) (by simpa using hl)).mono ?_
  · intro i hi
    rw [Lib.cell_of_heap (heap_newP W _)]
    match i, hi with
    | 0, _ => rfl
  · rintro e W' ⟨v', rfl, h1, h2⟩
    exact ⟨v', rfl, h1, (WK.of_below (al1 _ _) b v).trans h2⟩
theorem put2 (b n : Nat) (t u : ByteArray) (ts : List Tk) (v : Value) (W : World) (hn : n = W.heap.size) (h : Wr b ts v W) (hp : 0 < t.size ∧ t.size ≤ maxLen) (hq : 0 < u.size ∧ u.size ≤ maxLen) (hl : ts.length + 2 ≤ 4000000000000) :
    Calls Tryz.prog 59 #[.pointer (some ⟨b, 0, none⟩), .slice (some ⟨n, 0, none⟩) 2 2] (W.alloc (.cells #[.string t, .string u] 9)) (WEnd b ts v W [pTk t, pTk u]) := by
  subst hn
  refine (put_any b W.heap.size 2 [t, u] ts v _ (h.alloc _) (by simp) (h.own (Nat.le_refl _)) ?_ (by intro x hx; simp at hx; rcases hx with rfl | rfl; exact hp; exact hq) (by simp) (by simpa using hl)).mono ?_
  · intro i hi
    rw [Lib.cell_of_heap (heap_newP W _)]
    match i, hi with
    | 0, _ => rfl
    | 1, _ => rfl
  · rintro e W' ⟨v', rfl, h1, h2⟩
    exact ⟨v', rfl, h1, (WK.of_below (al1 _ _) b v).trans h2⟩
theorem put3 (b n : Nat) (t u x : ByteArray) (ts : List Tk) (v : Value) (W : World) (hn : n = W.heap.size) (h : Wr b ts v W) (hp : 0 < t.size ∧ t.size ≤ maxLen) (hq : 0 < u.size ∧ u.size ≤ maxLen) (hr : 0 < x.size ∧ x.size ≤ maxLen) (hl : ts.length + 3 ≤ 4000000000000) :
    Calls Tryz.prog 59 #[.pointer (some ⟨b, 0, none⟩), .slice (some ⟨n, 0, none⟩) 3 3] (W.alloc (.cells #[.string t, .string u, .string x] 9)) (WEnd b ts v W [pTk t, pTk u, pTk x]) := by
  subst hn
  refine (put_any b W.heap.size 3 [t, u, x] ts v _ (h.alloc _) (by simp) (h.own (Nat.le_refl _)) ?_ (by intro y hy; simp at hy; rcases hy with rfl | rfl | rfl; exact hp; exact hq; exact hr) (by simp) (by simpa using hl)).mono ?_
  · intro i hi
    rw [Lib.cell_of_heap (heap_newP W _)]
    match i, hi with
    | 0, _ => rfl
    | 1, _ => rfl
    | 2, _ => rfl
  · rintro e W' ⟨v', rfl, h1, h2⟩
    exact ⟨v', rfl, h1, (WK.of_below (al1 _ _) b v).trans h2⟩
/- one call behind another -/
theorem WEnd.of {b : Nat} {ts d d' : List Tk} {v v' : Value} {W W' : World} (h : Wr b (ts ++ d ++ d') v' W') (k : WK b v v' W W') : WEnd b ts v W (d ++ d') (.returned (.tuple #[])) W' := by
  rw [List.append_assoc] at h
  exact ⟨v', rfl, h, k⟩
set_option maxRecDepth 100000 in
set_option maxHeartbeats 1600000 in
theorem ref_w (b : Nat) (m n : ByteArray) (ts : List Tk) (v : Value) (W : World) (h : Wr b ts v W) (hn : nameOk n = true) (hm : m.size = 0 ∨ nameOk m = true) (hl : ts.length + (refT m n).length ≤ 4000000000000) :
    Calls Tryz.prog 138 #[.pointer (some ⟨b, 0, none⟩), .string m, .string n] W (WEnd b ts v W (refT m n)) := by
  have HW := hid h
  have hlt := h.lt
  have hpn := pn hn
  have hnf := name_fit hn
  clear h
  by_cases h0 : m.size = 0
  · have HR : Hid (refT m n = [pTk n]) := by show _ = _; unfold refT; rw [if_pos h0, hpn]
    have hme : m.toList.isEmpty = true := by
      rw [Lib.toList_data, List.isEmpty_iff]
      exact List.eq_nil_of_length_eq_zero (by rw [Lx.len_toList]; exact h0)
    rw [HR.out] at hl ⊢
    go_enter Tryz.func138, Tryz.ntmps138
    go_wp2_with fail
    refine (put1 b _ n ts v W rfl HW.out hnf (by simpa using hl)).mono ?_
    rintro e W1 ⟨v1, rfl, h1, k1⟩
    go_wp2_with fail
    go_end0
    exact ⟨v1, rfl, h1, k1⟩
  · have hmo := hm.resolve_left h0
    have HR : Hid (refT m n = [pTk m, pTk tDot] ++ [pTk n]) := by show _ = _; unfold refT; rw [if_neg h0, hpn, pn hmo]; rfl
    have hmf := name_fit hmo
    have hme : m.toList.isEmpty = false := by
      cases hh : m.toList.isEmpty with
      | false => rfl
      | true =>
        rw [Lib.toList_data, List.isEmpty_iff] at hh
        have := Lx.len_toList m
        rw [hh] at this
        simp at this
        omega
    rw [HR.out] at hl ⊢
    simp at hl
    go_enter Tryz.func138, Tryz.ntmps138
    go_wp2_with fail
    refine (put2 b _ m tDot ts v W rfl HW.out hmf (by decide) (by omega)).mono ?_
    rintro e W1 ⟨v1, rfl, h1, k1⟩
    have H1 := hid h1
    have hz1 := k1.size
    have hlt1 := h1.lt
    clear h1
    go_wp2_with fail
    refine (put1 b _ n _ v1 W1 rfl H1.out hnf (by simp; omega)).mono ?_
    rintro e W2 ⟨v2, rfl, h2, k2⟩
    go_wp2_with fail
    go_end0
    exact WEnd.of h2 (k1.trans k2)
end Go.Proofs.YtcekpobmbmnplaaGreatDoor
