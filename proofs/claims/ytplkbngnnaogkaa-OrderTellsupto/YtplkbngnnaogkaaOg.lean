/-
  The order of modules without the program: names, what each uses, the order that is told, and all that one needs.
-/
import Derived.RowKit
namespace Go.Proofs.Ytplkbngnnaogkaa
namespace Og

abbrev Nm := List UInt8
def freeB (U : Nm → List Nm) (S : List Nm) (a : Nm) : Bool := !S.contains a && (U a).all (fun u => S.contains u)
def sortN (ns : List Nm) (U : Nm → List Nm) : Nat → List Nm → Option (List Nm)
  | 0, S => some S
  | k + 1, S => match ns.find? (freeB U S) with
    | none => none
    | some a => sortN ns U k (S ++ [a])
/- Each is behind all that it uses. -/
def Topo (U : Nm → List Nm) (S : List Nm) : Prop := ∀ p (h : p < S.length), ∀ u ∈ U S[p], u ∈ S.take p
inductive Reach (U : Nm → List Nm) (a : Nm) : Nm → Prop
  | base {u : Nm} : u ∈ U a → Reach U a u
  | step {b u : Nm} : Reach U a b → u ∈ U b → Reach U a u

theorem free_of {U : Nm → List Nm} {S : List Nm} {a : Nm} (h : freeB U S a = true) : a ∉ S ∧ ∀ u ∈ U a, u ∈ S := by
  simp only [freeB, Bool.and_eq_true, Bool.not_eq_true', List.all_eq_true, List.contains_iff_mem] at h
  refine ⟨fun hm => ?_, h.2⟩
  rw [List.contains_iff_mem.2 hm] at h
  exact Bool.noConfusion h.1
theorem Topo.snoc {U : Nm → List Nm} {S : List Nm} {a : Nm} (h : Topo U S) (hf : freeB U S a = true) : Topo U (S ++ [a]) := by
  intro p hp u hu
  rcases Nat.lt_or_ge p S.length with hlt | hge
  · rw [List.getElem_append_left hlt] at hu
    rw [List.take_append_of_le_length (by omega)]
    exact h p hlt u hu
  · have : p = S.length := by simp at hp; omega
    subst this
    simp at hu
    rw [List.take_left]
    exact (free_of hf).2 u hu
theorem sortN_spec {ns : List Nm} {U : Nm → List Nm} : ∀ (k : Nat) (S o : List Nm), sortN ns U k S = some o → S.Nodup → Topo U S → (∀ a ∈ S, a ∈ ns) → o.Nodup ∧ Topo U o ∧ o.length = S.length + k ∧ ∀ a ∈ o, a ∈ ns
  | 0, S, o, h, h1, h2, h3 => by simp [sortN] at h; subst h; exact ⟨h1, h2, rfl, h3⟩
  | k + 1, S, o, h, h1, h2, h3 => by
    unfold sortN at h
    split at h
    · cases h
    · rename_i a ha
      have hf := List.find?_some ha
      have := sortN_spec k (S ++ [a]) o h (List.nodup_append.2 ⟨h1, by simp, by intro x hx y hy e; simp at hy; subst hy; subst e; exact (free_of hf).1 hx⟩) (h2.snoc hf) (by
        intro x hx
        rcases List.mem_append.1 hx with hx | hx
        · exact h3 x hx
        · simp at hx; subst hx; exact List.mem_of_find?_eq_some ha)
      simp at this
      exact ⟨this.1, this.2.1, by omega, this.2.2.2⟩
theorem Topo.reach {U : Nm → List Nm} {S : List Nm} (h : Topo U S) {p : Nat} (hp : p < S.length) {b : Nm} (hr : Reach U S[p] b) : b ∈ S.take p := by
  induction hr with
  | base hu => exact h p hp _ hu
  | step _ hu ih =>
    obtain ⟨q, hq, e⟩ := List.getElem_of_mem ih
    have hq' : q < p := by simp at hq; omega
    have hqS : q < S.length := by omega
    rw [List.getElem_take] at e
    rw [← e] at hu
    have := h q hqS _ hu
    exact List.take_subset_take_left S (by omega) this
theorem Reach.trans {U : Nm → List Nm} {a b c : Nm} (h : Reach U a b) (k : Reach U b c) : Reach U a c := by
  induction k with
  | base hu => exact .step h hu
  | step _ hu ih => exact .step ih hu

/- All that one needs. -/
structure NeedIs (U : Nm → List Nm) (a : Nm) (l : List Nm) : Prop where
  nodup : l.Nodup
  mine : ∀ u ∈ U a, u ∈ l
  theirs : ∀ x ∈ l, ∀ u ∈ U x, u ∈ l
  reach : ∀ x ∈ l, Reach U a x
theorem NeedIs.iff {U : Nm → List Nm} {a : Nm} {l : List Nm} (h : NeedIs U a l) (x : Nm) : x ∈ l ↔ Reach U a x := by
  refine ⟨h.reach x, fun hr => ?_⟩
  induction hr with
  | base hu => exact h.mine _ hu
  | step _ hu ih => exact h.theirs _ ih _ hu
theorem NeedIs.inner {U : Nm → List Nm} {a b : Nm} {l m : List Nm} (h : NeedIs U a l) (k : NeedIs U b m) (hb : b ∈ l) : ∀ x ∈ m, x ∈ l :=
  fun x hx => (h.iff x).2 ((h.reach b hb).trans (k.reach x hx))
theorem NeedIs.user {U : Nm → List Nm} {a : Nm} {l : List Nm} (h : NeedIs U a l) {x : Nm} (hx : x ∈ l) : ∃ c, (c = a ∨ c ∈ l) ∧ x ∈ U c := by
  have := h.reach x hx
  cases this with
  | base hu => exact ⟨a, Or.inl rfl, hu⟩
  | step hr hu => exact ⟨_, Or.inr ((h.iff _).2 hr), hu⟩

/- How often names of one list stand in another. -/
def seenN (T l : List Nm) : Nat := (T.map (fun x => l.count x)).sum
theorem seenN_nil (T : List Nm) : seenN T [] = 0 := by
  induction T with
  | nil => rfl
  | cons x T ih => simp only [seenN, List.map_cons, List.sum_cons, List.count_nil] at ih ⊢; omega
theorem seenN_snoc (T l : List Nm) (x : Nm) : seenN (T ++ [x]) l = seenN T l + l.count x := by simp [seenN]
theorem seenN_cons (T l : List Nm) (y : Nm) : seenN T (y :: l) = seenN T l + T.count y := by
  induction T with
  | nil => rfl
  | cons x T ih =>
    simp only [seenN, List.map_cons, List.sum_cons] at ih ⊢
    rw [ih]
    simp only [List.count_cons]
    by_cases e : x = y
    · subst e; simp; omega
    · have e' : ¬ y = x := fun h => e h.symm
      simp [e, e']; omega
theorem seenN_all : ∀ (l T : List Nm), T.Nodup → l.Nodup → (∀ x ∈ l, x ∈ T) → seenN T l = l.length
  | [], T, _, _, _ => seenN_nil T
  | y :: l, T, hT, hl, hs => by
    have hy : T.count y = 1 := by
      have h1 := List.nodup_iff_count.1 hT y
      have h2 := List.count_pos_iff.2 (hs y (by simp))
      omega
    rw [seenN_cons, seenN_all l T hT (List.nodup_cons.1 hl).2 (fun x hx => hs x (by simp [hx])), hy]
    rfl
theorem NeedIs.seen {U : Nm → List Nm} {S l : List Nm} (h : Topo U S) (hn : S.Nodup) {p : Nat} (hp : p < S.length) (hl : NeedIs U S[p] l) : seenN (S.take p) l = l.length :=
  seenN_all l _ (hn.sublist (List.take_sublist _ _)) hl.nodup (fun x hx => h.reach hp (hl.reach x hx))

/- Modules as far as they are asked of here: names and uses. -/
structure Gm where
  name : Nm
  uses : List Nm
def names (L : List Gm) : List Nm := L.map Gm.name
def useOf (L : List Gm) (a : Nm) : List Nm := ((L.find? (fun m => m.name == a)).map Gm.uses).getD []
def le (a b : Nm) : Bool := decide (a ≤ b)
def sorted (L : List Gm) : List Nm := (names L).mergeSort le
def closedB (L : List Gm) : Bool := L.all (fun m => m.uses.all (fun u => (names L).contains u))
theorem useOf_at {L : List Gm} (hn : (names L).Nodup) (i : Nat) (h : i < L.length) : useOf L L[i].name = L[i].uses := by
  unfold useOf
  have : L.find? (fun m => m.name == L[i].name) = some L[i] := by
    rw [List.find?_eq_some_iff_getElem]
    refine ⟨by simp, i, h, rfl, fun j hj => ?_⟩
    have hne : (names L)[j]'(by simp [names]; omega) ≠ (names L)[i]'(by simp [names]; omega) := fun e => by
      have := (List.getElem_inj hn).1 e
      omega
    simpa [names] using hne
  rw [this]; rfl
theorem useOf_eq {L L' : List Gm} (hn : (names L).Nodup) (hp : L'.Perm L) : useOf L' = useOf L := by
  have hn' : (names L').Nodup := (hp.map Gm.name).nodup_iff.2 hn
  funext a
  by_cases ha : a ∈ names L
  · obtain ⟨m, hm, rfl⟩ := List.mem_map.1 ha
    obtain ⟨i, hi, rfl⟩ := List.getElem_of_mem hm
    obtain ⟨j, hj, e⟩ := List.getElem_of_mem (hp.mem_iff.2 hm)
    rw [useOf_at hn i hi, ← e, useOf_at hn' j hj]
  · have h1 : L.find? (fun m => m.name == a) = none := by
      rw [List.find?_eq_none]
      intro m hm hc
      exact ha (List.mem_map.2 ⟨m, hm, by simpa using hc⟩)
    have h2 : L'.find? (fun m => m.name == a) = none := by
      rw [List.find?_eq_none]
      intro m hm hc
      exact ha (List.mem_map.2 ⟨m, hp.mem_iff.1 hm, by simpa using hc⟩)
    unfold useOf
    rw [h1, h2]
theorem swap_perm {α : Type} (L : List α) (i j : Nat) (hi : i < L.length) (hj : j < L.length) : ((L.set i L[j]).set j L[i]).Perm L := by
  have := Array.swap_perm (xs := L.toArray) (i := i) (j := j) (by simpa using hi) (by simpa using hj)
  simpa [Array.swap, Array.perm_iff_toList_perm] using this
end Og
end Go.Proofs.Ytplkbngnnaogkaa
