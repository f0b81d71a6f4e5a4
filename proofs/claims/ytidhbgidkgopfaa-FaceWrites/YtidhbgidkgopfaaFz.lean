/-
  What is read fits; a row of items as the checks want it.
-/
import Derived.Test.YtidhbgidkgopfaaFy
namespace Go.Proofs.Ytidhbgidkgopfaa
open Go.RowKit Go.Shelf
set_option maxRecDepth 100000

theorem cellsL_get : ∀ (x : List It) (i : Nat) (h : i < x.length), (cellsL x)[i * 4]? = some (.int .i64 x[i].kind) ∧ (cellsL x)[i * 4 + 1]? = some (.int .i64 x[i].n) ∧ (cellsL x)[i * 4 + 2]? = some (.int .i64 x[i].at_) ∧ (cellsL x)[i * 4 + 3]? = some (.string x[i].name)
  | [], i, h => absurd h (Nat.not_lt_zero _)
  | a :: x, 0, _ => ⟨rfl, rfl, rfl, rfl⟩
  | a :: x, i + 1, h => by
    have ih := cellsL_get x i (by simpa using h)
    have e : ∀ j, (cellsL (a :: x))[j + 4]? = (cellsL x)[j]? := fun j => by
      show (cells1 a ++ cellsL x)[j + 4]? = _
      rw [List.getElem?_append_right (by simp [cells1])]
      simp [cells1]
    have e0 : (i + 1) * 4 = i * 4 + 4 := by omega
    refine ⟨?_, ?_, ?_, ?_⟩
    · rw [e0, e]; exact ih.1
    · rw [e0, show i * 4 + 4 + 1 = (i * 4 + 1) + 4 by omega, e]; exact ih.2.1
    · rw [e0, show i * 4 + 4 + 2 = (i * 4 + 2) + 4 by omega, e]; exact ih.2.2.1
    · rw [e0, show i * 4 + 4 + 3 = (i * 4 + 3) + 4 by omega, e]; exact ih.2.2.2
theorem IRow.at {B : Nat} {w : World} {v : Value} {x : List It} (h : IRow B w v x) : ∃ ad cap, v = .slice ad x.length cap ∧ ItemsAt w ad x := by
  rcases h.2 with ⟨hv, h0⟩ | ⟨g, cap, cur, hv, _, hg, _⟩
  · exact ⟨none, 0, by rw [hv, h0], Or.inl (List.eq_nil_of_length_eq_zero h0)⟩
  · have hlt : g < w.heap.size := by
      rcases Nat.lt_or_ge g w.heap.size with h' | h'
      · exact h'
      · simp [Array.getElem?_eq_none h'] at hg
    have hc : ∀ j u, (cellsL x)[j]? = some u → w.cell? ⟨g, j, none⟩ = some u := fun j u hj => by
      have := World.ownsRow.cells h (g := g) (by rw [hv]; rfl) j u hj
      rw [show (⟨g, 0, none⟩ : Addr).add j = ⟨g, j, none⟩ from by unfold Addr.add; split <;> simp_all] at this
      exact this
    refine ⟨_, cap, hv, Or.inr ⟨g, 0, rfl, hlt, fun i hi => ?_, fun i hi => ?_, fun i hi => ?_, fun i hi => ?_⟩⟩
    · rw [Nat.zero_add]; exact hc _ _ (cellsL_get x i hi).1
    · rw [Nat.zero_add]; exact hc _ _ (cellsL_get x i hi).2.1
    · rw [Nat.zero_add]; exact hc _ _ (cellsL_get x i hi).2.2.1
    · rw [Nat.zero_add]; exact hc _ _ (cellsL_get x i hi).2.2.2
theorem pText_fit {l x r : List UInt8} (h : pText l = some (x, r)) : x.length ≤ 255 := by
  unfold pText at h
  cases hb : pByte l with
  | none => rw [hb] at h; cases h
  | some q =>
    rw [hb] at h
    have h1 := pByte_lo (l := l) (n := q.1) (r := q.2) hb
    have h2 := (pTake_len (show pTake q.1.toNat q.2 = some (x, r) from h)).1
    omega
theorem pItem_fit {l r : List UInt8} {i : It} (h : pItem l = some (i, r)) : i.name.size ≤ 255 := by
  unfold pItem at h
  cases h1 : pByte l with
  | none => rw [h1] at h; cases h
  | some a =>
    cases h2 : pText a.2 with
    | none => rw [h1] at h; simp [h2] at h
    | some b =>
      cases h3 : pNum b.2 with
      | none => rw [h1] at h; simp [h2, h3] at h
      | some c =>
        cases h4 : pNum c.2 with
        | none => rw [h1] at h; simp [h2, h3, h4] at h
        | some d =>
          rw [h1] at h
          simp [h2, h3, h4] at h
          rw [← h.1]
          show (strOf b.1).size ≤ 255
          rw [strOf_size]
          exact pText_fit (r := b.2) h2
theorem pItems_fit : ∀ (n : Nat) (l r : List UInt8) (x : List It), pItems n l = some (x, r) → x.length = n ∧ ∀ i ∈ x, i.name.size ≤ 255
  | 0, l, r, x, h => by cases h; exact ⟨rfl, fun i hi => by cases hi⟩
  | n + 1, l, r, x, h => by
    unfold pItems at h
    cases h1 : pItem l with
    | none => rw [h1] at h; cases h
    | some a =>
      rw [h1] at h
      simp only [Option.bind_some] at h
      cases h2 : pItems n a.2 with
      | none => rw [h2] at h; cases h
      | some b =>
        rw [h2] at h
        cases h
        have ih := pItems_fit n a.2 b.2 b.1 h2
        refine ⟨by simp [ih.1], fun i hi => ?_⟩
        rcases List.mem_cons.1 hi with e | e
        · rw [e]; exact pItem_fit (r := a.2) h1
        · exact ih.2 i e
theorem pFace_fit {l r : List UInt8} {f : Fc} (h : pFace l = some (f, r)) : f.items.length ≤ 255 ∧ f.name.size ≤ 255 ∧ ∀ i ∈ f.items, i.name.size ≤ 255 := by
  unfold pFace at h
  cases h1 : pText l with
  | none => rw [h1] at h; cases h
  | some a =>
    cases h2 : pByte a.2 with
    | none => rw [h1] at h; simp [h2] at h
    | some b =>
      cases h3 : pItems b.1.toNat b.2 with
      | none => rw [h1] at h; simp [h2, h3] at h
      | some c =>
        rw [h1] at h
        simp [h2, h3] at h
        have h4 := pItems_fit _ _ c.2 c.1 h3
        have h5 := pByte_lo (n := b.1) (r := b.2) h2
        have h6 := pText_fit (r := a.2) h1
        rw [← h.1]
        exact ⟨by show c.1.length ≤ 255; omega, by show (strOf a.1).size ≤ 255; rw [strOf_size]; exact h6, h4.2⟩
theorem wOk_fit {l : List UInt8} {f : Fc} (h : wOk l = some f) : f.items.length ≤ 255 ∧ f.name.size ≤ 255 ∧ ∀ i ∈ f.items, i.name.size ≤ 255 := by
  unfold wOk at h
  split at h
  · rename_i g hg
    cases h
    exact pFace_fit hg
  · cases h

end Go.Proofs.Ytidhbgidkgopfaa
