/-
  The order of modules: the law without the document's answer. What it leans on.
-/
import Derived.Test.YtplkbngnnaogkaaOi
namespace Go.Proofs.Ytplkbngnnaogkaa
open Go.RowKit Go.Maps Go.Sort Go.WideMaps

theorem perm_of_len {l m : List Nm} (hl : l.Nodup) (hs : ∀ x ∈ l, x ∈ m) (he : m.length ≤ l.length) : ∀ x ∈ m, x ∈ l := fun x hx => by
  apply Classical.byContradiction
  intro hn
  have := len_le (l ++ [x]) m (List.nodup_append.2 ⟨hl, by simp, by intro a ha b hb e; simp at hb; subst hb; subst e; exact hn ha⟩) (fun y hy => by
    rcases List.mem_append.1 hy with h | h
    · exact hs y h
    · simp at h; rw [h]; exact hx)
  simp at this
  omega
/- What an order that was told is. -/
structure SortIs (L : List Mo) (S : List Nm) : Prop where
  nodup : S.Nodup
  topo : Og.Topo (uL L) S
  len : S.length = L.length
  mem : ∀ x ∈ S, x ∈ nmL L
  all : ∀ x ∈ nmL L, x ∈ S
theorem sort_of {L : List Mo} {S : List Nm} (h : sortL L = some S) : SortIs L S := by
  obtain ⟨h1, h2, h3, h4⟩ := Og.sortN_spec L.length [] S h List.nodup_nil (fun p hp => by simp at hp) (by simp)
  have hl : S.length = L.length := by simpa using h3
  have hm : ∀ x ∈ S, x ∈ nmL L := fun x hx => mem_nsL.1 (h4 x hx)
  exact ⟨h1, h2, hl, hm, perm_of_len h1 hm (by rw [nmL_len]; omega)⟩
/- Two modules exchanged. -/
def swapL (L : List Mo) (i j : Nat) (hi : i < L.length) (hj : j < L.length) : List Mo := (L.set i L[j]).set j L[i]
theorem swap_len {L : List Mo} {i j : Nat} (hi : i < L.length) (hj : j < L.length) : (swapL L i j hi hj).length = L.length := by simp [swapL]
theorem swap_perm {L : List Mo} {i j : Nat} (hi : i < L.length) (hj : j < L.length) : (swapL L i j hi hj).Perm L := Og.swap_perm L i j hi hj
theorem nmL_perm {L M : List Mo} (h : M.Perm L) : (nmL M).Perm (nmL L) := h.map _
theorem ordE_perm {L M : List Mo} (h : M.Perm L) (he : ordE L = 0) : ordE M = 0 := by
  obtain ⟨h4, ha, hn, hu⟩ := ordE_zero he
  refine ordE_ok (by rw [h.length_eq]; omega) ?_ ((nmL_perm h).nodup_iff.2 hn) ?_
  · rw [List.all_eq_true] at ha ⊢
    exact fun m hm => ha m (h.mem_iff.1 hm)
  · unfold usesIn at hu ⊢
    rw [List.all_eq_true] at hu ⊢
    intro m hm
    have := hu m (h.mem_iff.1 hm)
    rw [List.all_eq_true] at this ⊢
    intro u hu'
    have h1 := this u hu'
    rw [List.contains_iff_mem] at h1 ⊢
    exact (nmL_perm h).mem_iff.2 h1
theorem sortL_perm {L M : List Mo} (h : M.Perm L) (hn : (nmL L).Nodup) : sortL M = sortL L := by
  unfold sortL
  have h1 : nsL M = nsL L := mergeSort_of_perm (nmL_perm h)
  have h2 : uL M = uL L := Og.useOf_eq (by rw [names_gL]; exact hn) (h.map gmOf)
  rw [h1, h2, h.length_eq]
/- The number of a name in the list. -/
theorem ix_at {L : List Mo} (hn : (nmL L).Nodup) (i : Nat) (hi : i < L.length) : ixL L L[i].name.data.toList = i := by
  unfold ixL
  rw [idx_of hn (show (nmL L)[i]? = some _ from by simp [nmL, hi])]
theorem dat_cells {w : World} {g : Nat} {L : List Mo} (hg : g < w.heap.size) (hl : L.length ≤ 1000) (h : ∀ k (hk : k < L.length), ∃ cs : List Value, DVals w Tt L[k].ds cs ∧ ∀ r u, cs[r]? = some u → w.cell? ⟨g, k * 5 + r, none⟩ = some u) : DAt w Tt (some ⟨g, 0, none⟩) L.length (mosD L) := by
  have key : ∀ m, m ≤ L.length → ∃ cs : List Value, cs.length = m * 5 ∧ DVals w Tt (mosD (L.take m)) cs ∧ ∀ j u, cs[j]? = some u → w.cell? ⟨g, j, none⟩ = some u := by
    intro m
    induction m with
    | zero => intro _; exact ⟨[], rfl, .nil, fun j u hj => by simp at hj⟩
    | succ m ih =>
      intro hm
      obtain ⟨cs, h1, h2, h3⟩ := ih (by omega)
      obtain ⟨cs', h4, h5⟩ := h m (by omega)
      have hl' : cs'.length = 5 := h4.len
      refine ⟨cs ++ cs', by simp [h1, hl']; omega, ?_, fun j u hj => ?_⟩
      · have e : mosD (L.take (m + 1)) = mosD (L.take m) ++ L[m].ds := by
          unfold mosD
          rw [List.take_succ_eq_append_getElem (by omega), List.flatMap_append]; simp
        rw [e]
        exact h2.append h4
      · rcases Nat.lt_or_ge j cs.length with hlt | hge
        · rw [List.getElem?_append_left hlt] at hj; exact h3 j u hj
        · rw [List.getElem?_append_right hge] at hj
          have := h5 _ u hj
          rw [show m * 5 + (j - cs.length) = j from by omega] at this
          exact this
  obtain ⟨cs, h1, h2, h3⟩ := key L.length (Nat.le_refl _)
  rw [List.take_length] at h2
  have h4 := h2.len
  exact ⟨by omega, by omega, Or.inr ⟨g, 0, cs, rfl, trivial, hg, fun j u hj => by rw [Nat.zero_add]; exact h3 j u hj, h2⟩⟩
end Go.Proofs.Ytplkbngnnaogkaa
