/-
  What is peeped does the same, with no more steps.
-/
import Derived.Test.YtpahhhhfhnpmjaaPe
namespace Go.Proofs.Ytpahhhhfhnpmjaa
namespace Mc
open Go.RowKit

/- only the rules of what is known -/
def foldTo (was : List Ins) (m : List Bool) : Nat → List Ins
  | 0 => was
  | k + 1 => if ((foldTo was m k).getD k dI).op = 1 then folded (foldTo was m k) m k else foldTo was m k
theorem foldTo_len (was : List Ins) (m : List Bool) : ∀ k, (foldTo was m k).length = was.length
  | 0 => rfl
  | k + 1 => by
    unfold foldTo
    split
    · rw [folded_len]; exact foldTo_len was m k
    · exact foldTo_len was m k
theorem foldTo_same (was : List Ins) (m : List Bool) (hM : Marked was m) : ∀ k, k ≤ was.length → SameRun was (foldTo was m k) ∧ Marked (foldTo was m k) m
  | 0, _ => ⟨SameRun.refl _, hM⟩
  | k + 1, hk => by
    obtain ⟨h1, h2⟩ := foldTo_same was m hM k (by omega)
    unfold foldTo
    split
    · rename_i h
      obtain ⟨h3, h4⟩ := folded_same h2 (by rw [foldTo_len]; omega) h
      exact ⟨h1.trans h3, h4⟩
    · exact ⟨h1, h2⟩

structure Agree (was : List Ins) (k : Nat) (q p : List Ins) : Prop where
  lq : q.length = was.length
  lp : p.length = was.length
  low : ∀ x, k ≤ x → p.getD x dI = q.getD x dI
  each : ∀ x, p.getD x dI = q.getD x dI ∨ (jumpB (q.getD x dI) = true ∧ ∃ t : Nat, (t : Int) = (q.getD x dI).a ∧ t < was.length ∧ (was.getD t dI).op = 11 ∧ p.getD x dI = ⟨(q.getD x dI).op, (was.getD t dI).a, (q.getD x dI).b⟩)
  keep : ∀ t, (was.getD t dI).op = 11 → q.getD t dI = was.getD t dI
theorem Agree.set {was q p : List Ins} {k : Nat} (h : Agree was k q p) (j : Nat) (y : Ins) (hj : ¬ (was.getD j dI).op = 11) : Agree was k (q.set j y) (p.set j y) := by
  refine ⟨by rw [List.length_set]; exact h.lq, by rw [List.length_set]; exact h.lp, fun x hx => ?_, fun x => ?_, fun t ht => ?_⟩
  · rw [getD_set, getD_set, h.lq, h.lp, h.low x hx]
  · rw [getD_set, getD_set, h.lq, h.lp]
    by_cases e : j = x ∧ j < was.length
    · rw [if_pos e, if_pos e]; exact Or.inl rfl
    · rw [if_neg e, if_neg e]; exact h.each x
  · rw [getD_set, if_neg (fun e => hj (by rw [e.1]; exact ht))]
    exact h.keep t ht
theorem Agree.next {was q p : List Ins} {k : Nat} (h : Agree was k q p) : Agree was (k + 1) q p := ⟨h.lq, h.lp, fun x hx => h.low x (by omega), h.each, h.keep⟩
theorem Agree.bare {was q p : List Ins} {k : Nat} (h : Agree was k q p) (m : List Bool) (j : Nat) (hj : k ≤ j) (op : Int) : bareB p m j op = bareB q m j op := by
  unfold bareB; rw [h.low j hj, h.lq, h.lp]
theorem Agree.not11 {was q p : List Ins} {k : Nat} (h : Agree was k q p) {j : Nat} (hj : ¬ (q.getD j dI).op = 11) : ¬ (was.getD j dI).op = 11 := fun e => hj (by rw [h.keep j e]; exact e)
theorem Agree.lay2 {was q p : List Ins} {k : Nat} (h : Agree was k q p) (y : Ins) (h0 : (q.getD k dI).op = 1) (h1 : ¬ (q.getD (k + 1) dI).op = 11) : Agree was k (lay2 q k y) (lay2 p k y) := by
  unfold Mc.lay2
  exact (h.set k _ (h.not11 (by rw [h0]; decide))).set (k + 1) _ (h.not11 h1)
theorem Agree.folded {was q p : List Ins} {k : Nat} (m : List Bool) (h : Agree was k q p) (h0 : (q.getD k dI).op = 1) : Agree was k (folded q m k) (folded p m k) := by
  unfold Mc.folded
  rw [h.bare m (k + 1) (by omega), h.bare m (k + 2) (by omega), h.bare m (k + 1) (by omega), h.bare m (k + 1) (by omega), h.bare m (k + 1) (by omega), h.bare m (k + 1) (by omega), h.low k (by omega), h.low (k + 1) (by omega), h.low (k + 2) (by omega)]
  split
  · rename_i hb
    simp only [Bool.and_eq_true] at hb
    unfold fold3
    rw [h.low k (by omega), h.low (k + 1) (by omega), h.low (k + 2) (by omega)]
    exact ((h.set k _ (h.not11 (by rw [h0]; decide))).set (k + 1) _ (h.not11 (by rw [(bare_of hb.1.1).2.1]; decide))).set (k + 2) _ (h.not11 (by rw [(bare_of hb.1.2).2.1]; decide))
  · split
    · rename_i hb; exact h.lay2 _ h0 (by rw [(bare_of hb).2.1]; decide)
    · split
      · rename_i hb; exact h.lay2 _ h0 (by rw [(bare_of hb).2.1]; decide)
      · split
        · rename_i hb; exact h.lay2 _ h0 (by rw [(bare_of hb).2.1]; decide)
        · split
          · rename_i hb; exact h.lay2 _ h0 (by rw [(bare_of hb).2.1]; decide)
          · exact h
theorem Agree.shorten {was q p : List Ins} {k : Nat} (h : Agree was k q p) (hj : jumpB (q.getD k dI) = true) : Agree was (k + 1) q (shorten was p k) := by
  unfold Mc.shorten
  rw [h.low k (Nat.le_refl _)]
  split
  · rename_i hs
    unfold shortB at hs
    simp only [Bool.and_eq_true, decide_eq_true_eq, Bool.not_eq_true', decide_eq_false_iff_not] at hs
    obtain ⟨⟨⟨s1, s2⟩, s3⟩, s4⟩ := hs
    refine ⟨h.lq, by rw [List.length_set]; exact h.lp, fun x hx => ?_, fun x => ?_, h.keep⟩
    · rw [getD_set, if_neg (by omega)]; exact h.low x (by omega)
    · rw [getD_set]
      by_cases e : k = x ∧ k < p.length
      · rw [if_pos e]
        obtain ⟨e1, e2⟩ := e
        subst e1
        exact Or.inr ⟨hj, (q.getD k dI).a.toNat, by omega, by omega, s4, rfl⟩
      · rw [if_neg e]; exact h.each x
  · exact h.next
theorem agree (was : List Ins) (m : List Bool) : ∀ k, Agree was k (foldTo was m k) (peepTo was m k)
  | 0 => ⟨rfl, rfl, fun _ _ => rfl, fun _ => Or.inl rfl, fun _ _ => rfl⟩
  | k + 1 => by
    have h := agree was m k
    unfold foldTo peepTo lookAt
    have hl := h.low k (Nat.le_refl _)
    by_cases hj : jumpB ((foldTo was m k).getD k dI) = true
    · have h1 : ¬ ((foldTo was m k).getD k dI).op = 1 := by
        unfold jumpB at hj
        simp only [Bool.or_eq_true, decide_eq_true_eq] at hj
        omega
      rw [if_neg h1, hl, if_pos hj]
      exact h.shorten hj
    · rw [hl, if_neg hj]
      by_cases h1 : ((foldTo was m k).getD k dI).op = 1
      · rw [if_pos h1, if_pos h1]
        exact (h.folded m h1).next
      · rw [if_neg h1, if_neg h1]
        exact h.next
theorem Agree.short {was q p : List Ins} {k : Nat} (h : Agree was k q p) : Short q p :=
  ⟨h.lp.trans h.lq.symm, fun x _ => by
    rcases h.each x with e | ⟨hj, t, h1, h2, h3, h4⟩
    · exact Or.inl e
    · have e := h.keep t h3
      refine Or.inr ⟨hj, t, h1, by rw [h.lq]; exact h2, by rw [e]; exact h3, ?_⟩
      rw [e]; exact h4⟩

theorem peep_alike (was : List Ins) (mt ms : Int) (f g : Nat) (s : St) (hs : Start s) (h0 : 0 ≤ ms) (hf : ms.toNat < f) (hg : ms.toNat < g) (h6 : (run ⟨was, mt, ms⟩ f s).en ≠ 6) (h7 : (run ⟨was, mt, ms⟩ f s).en ≠ 7) :
    Alike (run ⟨was, mt, ms⟩ f s) (run ⟨peep was, mt, ms⟩ g s) := by
  have e := (foldTo_same was (marks was) (marked was) was.length (Nat.le_refl _)).1 mt ms f s hs h0 hf h6 h7
  rw [← e] at h6 h7 ⊢
  exact run_short (agree was (marks was) was.length).short mt ms f g 0 s s ⟨rfl, rfl, by omega⟩ (by rw [hs.steps]; exact h0) (by rw [hs.steps]; omega) (by rw [hs.steps]; exact h0) (by rw [hs.steps]; omega) h6 h7

/- what holds of all instructions, still does -/
def AllI (P : Ins → Prop) (c : List Ins) : Prop := ∀ x, x < c.length → P (c.getD x dI)
theorem AllI.set {P : Ins → Prop} {c : List Ins} (h : AllI P c) (j : Nat) {y : Ins} (hy : P y) : AllI P (c.set j y) := fun x hx => by
  rw [List.length_set] at hx
  rw [getD_set]
  split
  · exact hy
  · exact h x hx
theorem AllI.of {P : Ins → Prop} {c : List Ins} (h : ∀ i ∈ c, P i) : AllI P c := fun x hx => by
  rw [List.getD_eq_getElem?_getD, List.getElem?_eq_getElem hx]
  exact h _ (List.getElem_mem hx)
theorem AllI.mem {P : Ins → Prop} {c : List Ins} (h : AllI P c) : ∀ i ∈ c, P i := fun i hi => by
  obtain ⟨x, hx, rfl⟩ := List.getElem_of_mem hi
  have := h x hx
  rw [List.getD_eq_getElem?_getD, List.getElem?_eq_getElem hx] at this
  exact this
structure Kind (P : Ins → Prop) : Prop where
  nop : P nopI
  psh : ∀ op a b, foldsB op = true → P (pshI (known op a b))
  tru : ∀ b, P (pshI (truth b))
  jmp : ∀ x, P x → P (jmpI x.a)
  cut : ∀ x y, P x → P y → P ⟨x.op, y.a, x.b⟩
theorem AllI.folded {P : Ins → Prop} (hP : Kind P) {c : List Ins} (m : List Bool) (i : Nat) (h : AllI P c) : AllI P (folded c m i) := by
  unfold Mc.folded
  split
  · rename_i hb
    simp only [Bool.and_eq_true] at hb
    exact ((h.set i hP.nop).set (i + 1) hP.nop).set (i + 2) (hP.psh _ _ _ hb.2)
  · split
    · rename_i hb
      refine (h.set i hP.nop).set (i + 1) ?_
      unfold decI
      split
      · exact hP.jmp _ (h _ (bare_of hb).1)
      · exact hP.nop
    · split
      · exact (h.set i hP.nop).set (i + 1) (hP.tru _)
      · split
        · exact (h.set i hP.nop).set (i + 1) (hP.tru _)
        · split
          · exact (h.set i hP.nop).set (i + 1) hP.nop
          · exact h
theorem AllI.peepTo {P : Ins → Prop} (hP : Kind P) {was : List Ins} (m : List Bool) (h : AllI P was) : ∀ k, k ≤ was.length → AllI P (peepTo was m k)
  | 0, _ => h
  | k + 1, hk => by
    have ih := AllI.peepTo hP m h k (by omega)
    have hkl : k < (Mc.peepTo was m k).length := by rw [peepTo_len]; omega
    unfold Mc.peepTo lookAt
    split
    · unfold Mc.shorten
      split
      · rename_i hs
        unfold shortB at hs
        simp only [Bool.and_eq_true, decide_eq_true_eq, Bool.not_eq_true', decide_eq_false_iff_not] at hs
        exact ih.set k (hP.cut _ _ (ih k hkl) (h _ (by omega)))
      · exact ih
    · split
      · exact AllI.folded hP m k ih
      · exact ih
theorem AllI.peep {P : Ins → Prop} (hP : Kind P) {was : List Ins} (h : AllI P was) : AllI P (peep was) := AllI.peepTo hP _ h _ (Nat.le_refl _)

end Mc
end Go.Proofs.Ytpahhhhfhnpmjaa
