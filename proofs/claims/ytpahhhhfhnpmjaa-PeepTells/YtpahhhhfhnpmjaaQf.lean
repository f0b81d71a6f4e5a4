/-
  The first rule that applies at a place: what is asked, as mathematics; numbers in a new block.
-/
import Derived.Test.YtpahhhhfhnpmjaaQe
namespace Go.Proofs.Ytpahhhhfhnpmjaa
open Go.RowKit Go.Shelf
set_option maxRecDepth 100000

theorem follow1 (c : List Mc.Ins) (mk : List Bool) (i : Nat) (x : Int) (hi : i < c.length) : followB c mk i [x] = decide ((c.getD i Mc.dI).op = x) := by
  unfold followB
  simp [fTo, fok]
  omega
theorem follow2 (c : List Mc.Ins) (mk : List Bool) (i : Nat) (y : Int) : followB c mk i [1, y] = (decide ((c.getD i Mc.dI).op = 1) && Mc.bareB c mk (i + 1) y) := by
  unfold followB Mc.bareB
  rw [Bool.eq_iff_iff]
  simp [fTo, fok]
  constructor
  · rintro ⟨h1, h2, h3, h4⟩; exact ⟨h2, ⟨by omega, h3⟩, h4⟩
  · rintro ⟨h2, ⟨h1, h3⟩, h4⟩; exact ⟨by omega, h2, h3, h4⟩
theorem follow3 (c : List Mc.Ins) (mk : List Bool) (i : Nat) : followB c mk i [1, 1, 10] = (decide ((c.getD i Mc.dI).op = 1) && Mc.bareB c mk (i + 1) 1 && Mc.bareB c mk (i + 2) 10) := by
  unfold followB Mc.bareB
  rw [Bool.eq_iff_iff]
  simp [fTo, fok]
  constructor
  · rintro ⟨h1, ⟨h2, h3, h4⟩, h5, h6⟩; exact ⟨⟨h2, ⟨by omega, h3⟩, h4⟩, ⟨by omega, h5⟩, h6⟩
  · rintro ⟨⟨h2, ⟨h1, h3⟩, h4⟩, ⟨h0, h5⟩, h6⟩; exact ⟨by omega, ⟨h2, h3, h4⟩, h5, h6⟩

/- which rule it is -/
theorem look_jump {was c : List Mc.Ins} {mk : List Bool} {i : Nat} (hi : i < c.length) (h : followB c mk i [11] = true ∨ followB c mk i [12] = true) : Mc.lookAt was c mk i = Mc.shorten was c i := by
  rw [follow1 _ _ _ _ hi, follow1 _ _ _ _ hi] at h
  simp only [decide_eq_true_eq] at h
  unfold Mc.lookAt
  rw [if_pos (by unfold Mc.jumpB; simpa using h)]
theorem look_push {was c : List Mc.Ins} {mk : List Bool} {i : Nat} (hi : i < c.length) (h1 : followB c mk i [11] = false) (h2 : followB c mk i [12] = false) : Mc.lookAt was c mk i = if (c.getD i Mc.dI).op = 1 then Mc.folded c mk i else c := by
  rw [follow1 _ _ _ _ hi] at h1 h2
  simp only [decide_eq_false_iff_not] at h1 h2
  unfold Mc.lookAt
  rw [if_neg (by unfold Mc.jumpB; simp only [Bool.or_eq_true, decide_eq_true_eq]; omega)]
theorem look_three {was c : List Mc.Ins} {mk : List Bool} {i : Nat} (hi : i < c.length) (h1 : followB c mk i [11] = false) (h2 : followB c mk i [12] = false) (h3 : followB c mk i [1, 1, 10] = true) (hf : Mc.foldsB (c.getD (i + 2) Mc.dI).a = true) : Mc.lookAt was c mk i = Mc.fold3 c i := by
  rw [follow3] at h3
  simp only [Bool.and_eq_true, decide_eq_true_eq] at h3
  rw [look_push hi h1 h2, if_pos h3.1.1]
  unfold Mc.folded
  rw [if_pos (by simp only [Bool.and_eq_true]; exact ⟨⟨h3.1.2, h3.2⟩, hf⟩)]
theorem look_two {was c : List Mc.Ins} {mk : List Bool} {i : Nat} (hi : i < c.length) (h1 : followB c mk i [11] = false) (h2 : followB c mk i [12] = false) (h3 : (followB c mk i [1, 1, 10] && Mc.foldsB (c.getD (i + 2) Mc.dI).a) = false) :
    Mc.lookAt was c mk i = if followB c mk i [1, 12] then Mc.lay2 c i (Mc.decI (c.getD i Mc.dI).a (c.getD (i + 1) Mc.dI).a)
      else if followB c mk i [1, 9] then Mc.lay2 c i (Mc.pshI (Mc.truth ((c.getD i Mc.dI).a == 0)))
      else if followB c mk i [1, 22] then Mc.lay2 c i (Mc.pshI (Mc.truth ((c.getD i Mc.dI).a != 0)))
      else if followB c mk i [1, 17] then Mc.lay2 c i Mc.nopI else c := by
  rw [look_push hi h1 h2]
  rw [follow3] at h3
  rw [follow2, follow2, follow2, follow2]
  by_cases h : (c.getD i Mc.dI).op = 1
  · rw [if_pos h]
    unfold Mc.folded
    simp only [h, decide_true, Bool.true_and] at h3 ⊢
    rw [if_neg (by rw [h3]; decide)]
  · rw [if_neg h]
    simp only [h, decide_false, Bool.false_and, Bool.false_eq_true, if_false]

theorem nums1 (W : World) (x : Int) (t : TypeId) (n : Nat) (hn : n = W.heap.size) : NumsAt (W.alloc (.cells #[.int .i64 x] t)) (some ⟨n, 0, none⟩) [x] := by
  subst hn
  refine Or.inr ⟨_, 0, rfl, by simp, fun i hi => ?_⟩
  match i, hi with
  | 0, _ => simp
theorem nums2 (W : World) (x y : Int) (t : TypeId) (n : Nat) (hn : n = W.heap.size) : NumsAt (W.alloc (.cells #[.int .i64 x, .int .i64 y] t)) (some ⟨n, 0, none⟩) [x, y] := by
  subst hn
  refine Or.inr ⟨_, 0, rfl, by simp, fun i hi => ?_⟩
  match i, hi with
  | 0, _ => simp
  | 1, _ => simp
theorem nums3 (W : World) (x y z : Int) (t : TypeId) (n : Nat) (hn : n = W.heap.size) : NumsAt (W.alloc (.cells #[.int .i64 x, .int .i64 y, .int .i64 z] t)) (some ⟨n, 0, none⟩) [x, y, z] := by
  subst hn
  refine Or.inr ⟨_, 0, rfl, by simp, fun i hi => ?_⟩
  match i, hi with
  | 0, _ => simp
  | 1, _ => simp
  | 2, _ => simp

end Go.Proofs.Ytpahhhhfhnpmjaa
