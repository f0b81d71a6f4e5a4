/-
  A copy of instructions, by append.
-/
import Derived.Test.YtpahhhhfhnpmjaaQm
namespace Go.Proofs.Ytpahhhhfhnpmjaa
open Go.RowKit Go.Shelf
set_option maxRecDepth 100000

def cellsC (c : List Mc.Ins) : List Value := c.flatMap cellsI
theorem cellsC_len : ∀ c : List Mc.Ins, (cellsC c).length = c.length * 3
  | [] => rfl
  | y :: c => by
    have := cellsC_len c
    show (cellsI y ++ cellsC c).length = (c.length + 1) * 3
    rw [List.length_append, this]
    simp [cellsI]
    omega
theorem cellsC_get : ∀ (c : List Mc.Ins) (i : Nat), i < c.length → (cellsC c)[i * 3]? = some (.int .i64 (c.getD i Mc.dI).op) ∧ (cellsC c)[i * 3 + 1]? = some (.int .i64 (c.getD i Mc.dI).a) ∧ (cellsC c)[i * 3 + 2]? = some (.int .i64 (c.getD i Mc.dI).b)
  | [], i, h => absurd h (Nat.not_lt_zero _)
  | y :: c, 0, _ => ⟨rfl, rfl, rfl⟩
  | y :: c, i + 1, h => by
    have ih := cellsC_get c i (by simpa using h)
    have e : ∀ j, (cellsC (y :: c))[j + 3]? = (cellsC c)[j]? := fun j => by
      show (cellsI y ++ cellsC c)[j + 3]? = _
      rw [List.getElem?_append_right (by simp [cellsI])]
      simp [cellsI]
    have e0 : (i + 1) * 3 = i * 3 + 3 := by omega
    have eg : (y :: c).getD (i + 1) Mc.dI = c.getD i Mc.dI := rfl
    rw [eg]
    refine ⟨?_, ?_, ?_⟩
    · rw [e0, e]; exact ih.1
    · rw [e0, show i * 3 + 3 + 1 = (i * 3 + 1) + 3 by omega, e]; exact ih.2.1
    · rw [e0, show i * 3 + 3 + 2 = (i * 3 + 2) + 3 by omega, e]; exact ih.2.2
theorem cellsC_one (c : List Mc.Ins) : ∀ u ∈ cellsC c, u.oneCell' = true := by
  intro u hu
  obtain ⟨y, _, hy⟩ := List.mem_flatMap.1 hu
  exact cellsI_one y u hy
theorem add_off (b off j : Nat) : (⟨b, off, none⟩ : Addr).add j = ⟨b, off + j, none⟩ := by unfold Addr.add; simp
/- the cells that are copied -/
theorem news_of {W : World} {b off : Nat} {c : List Mc.Ins} (h : ∀ k, k < c.length → W.cell? ⟨b, off + k * 3, none⟩ = some (.int .i64 (c.getD k Mc.dI).op) ∧ W.cell? ⟨b, off + k * 3 + 1, none⟩ = some (.int .i64 (c.getD k Mc.dI).a) ∧ W.cell? ⟨b, off + k * 3 + 2, none⟩ = some (.int .i64 (c.getD k Mc.dI).b)) :
    ∀ j u, (cellsC c)[j]? = some u → W.cell? ((⟨b, off, none⟩ : Addr).add j) = some u := by
  intro j u hj
  have hlt : j < c.length * 3 := by
    rcases Nat.lt_or_ge j (c.length * 3) with h' | h'
    · exact h'
    · rw [List.getElem?_eq_none (by rw [cellsC_len]; exact h')] at hj; cases hj
  rw [add_off]
  obtain ⟨q, r, hr, rfl⟩ : ∃ q r, r < 3 ∧ j = q * 3 + r := ⟨j / 3, j % 3, by omega, by omega⟩
  have hq : q < c.length := by omega
  obtain ⟨k0, k1, k2⟩ := h q hq
  obtain ⟨g0, g1, g2⟩ := cellsC_get c q hq
  match r, hr with
  | 0, _ => rw [Nat.add_zero] at hj ⊢; rw [g0] at hj; cases hj; exact k0
  | 1, _ => rw [g1] at hj; cases hj; rw [← Nat.add_assoc]; exact k1
  | 2, _ => rw [g2] at hj; cases hj; rw [← Nat.add_assoc]; exact k2
/- the copy is a row -/
theorem row_of {W : World} {base g cap n : Nat} {c : List Mc.Ins} (h : W.ownsRow base 51 3 (.slice (some ⟨g, 0, none⟩) n cap) n (cellsC c)) : CRow W g c ∧ base ≤ g ∧ n ≤ cap := by
  rcases h.2 with ⟨hv, _⟩ | ⟨g', cap', cur, hv, hB, hg, hcap, _, hsz, htake⟩
  · cases hv
  · cases hv
    have hlt : g < W.heap.size := by
      rcases Nat.lt_or_ge g W.heap.size with h' | h'
      · exact h'
      · simp [Array.getElem?_eq_none h'] at hg
    have hc : ∀ j u, (cellsC c)[j]? = some u → W.cell? ⟨g, j, none⟩ = some u := fun j u hj => by
      have := World.ownsRow.cells h (g := g) rfl j u hj
      rw [add_off, Nat.zero_add] at this
      exact this
    refine ⟨⟨hlt, fun i hi => hc _ _ (cellsC_get c i hi).1, fun i hi => hc _ _ (cellsC_get c i hi).2.1, fun i hi => hc _ _ (cellsC_get c i hi).2.2, fun j _ => ?_⟩, hB, hcap⟩
    unfold World.frozen?
    simp only
    rw [hg]
    simp

end Go.Proofs.Ytpahhhhfhnpmjaa
