/-
  What is read is what was written: the plain mathematics.
-/
import Derived.Test.YtidhbgidkgopfaaGd
namespace Go.Proofs.Ytidhbgidkgopfaa
open Go.RowKit
set_option maxRecDepth 100000

theorem pByte_cons (c : UInt8) (r : List UInt8) : pByte (c :: r) = some ((c.toNat : Int), r) := by
  unfold pByte pTake
  rw [if_neg (by simp)]
  rfl
theorem pByte_nil : pByte [] = none := rfl
theorem byteOf_nat8 (c : UInt8) : byteOf (c.toNat : Int) = c := byteOf_of c _ (by have := c.toNat_lt; omega)
theorem pByte_back {l r : List UInt8} {n : Int} (h : pByte l = some (n, r)) : l = byteOf n :: r := by
  cases l with
  | nil => cases h
  | cons c l => rw [pByte_cons] at h; cases h; rw [byteOf_nat8]
theorem pTake_app (x r : List UInt8) : pTake x.length (x ++ r) = some (x, r) := by
  unfold pTake
  rw [if_neg (by simp)]
  simp
theorem pText_back {l x r : List UInt8} (h : pText l = some (x, r)) : l = textB (strOf x) ++ r := by
  unfold pText at h
  cases hb : pByte l with
  | none => rw [hb] at h; cases h
  | some q =>
    obtain ⟨n, l1⟩ := q
    rw [hb] at h
    obtain ⟨h0, h1, _⟩ := pByte_lo hb
    obtain ⟨h2, h3⟩ := pTake_len (show pTake n.toNat l1 = some (x, r) from h)
    rw [pByte_back hb, h3]
    unfold textB
    rw [strOf_size, strOf_list, h2, Int.toNat_of_nonneg h0]
    rfl
theorem pText_there (s : ByteArray) (r : List UInt8) (h : s.size ≤ 255) : pText (textB s ++ r) = some (s.data.toList, r) := by
  unfold textB
  rw [List.cons_append]
  unfold pText
  rw [pByte_cons]
  show pTake ((byteOf s.size).toNat : Int).toNat (s.data.toList ++ r) = _
  rw [byteOf_nat, show ((s.size : Int) % 256).toNat = s.data.toList.length by rw [Lx.len_toList]; omega]
  exact pTake_app _ _
theorem pNum_back {l r : List UInt8} {n : Int} (h : pNum l = some (n, r)) : l = numB n ++ r := by
  unfold pNum at h
  cases hb : pTake 8 l with
  | none => rw [hb] at h; cases h
  | some q =>
    obtain ⟨x, y⟩ := q
    rw [hb] at h
    cases h
    obtain ⟨h2, h3⟩ := pTake_len hb
    show l = numB (valL x) ++ y
    rw [numB_valL h2]
    exact h3
theorem pNum_there (n : Int) (r : List UInt8) (h0 : -9223372036854775808 ≤ n) (h1 : n ≤ 9223372036854775807) : pNum (numB n ++ r) = some (n, r) := by
  unfold pNum
  rw [show pTake 8 (numB n ++ r) = some (numB n, r) from pTake_app (numB n) r]
  show some (valL (numB n), r) = _
  rw [valL_numB n h0 h1]
theorem pItem_back {l r : List UInt8} {i : It} (h : pItem l = some (i, r)) : l = itemB i ++ r := by
  unfold pItem at h
  cases h1 : pByte l with
  | none => rw [h1] at h; cases h
  | some a =>
    cases h2 : pText a.2 with
    | none => rw [h1] at h; simp [h2] at h
    | some b =>
      cases h3 : pNum b.2 with
      | none => rw [h1] at h; simp [h2, h3] at h
      | some c =>
        cases h4 : pNum c.2 with
        | none => rw [h1] at h; simp [h2, h3, h4] at h
        | some d =>
          rw [h1] at h
          simp [h2, h3, h4] at h
          rw [← h.1, ← h.2, pByte_back (n := a.1) (r := a.2) h1, pText_back (x := b.1) (r := b.2) h2, pNum_back (n := c.1) (r := c.2) h3, pNum_back (n := d.1) (r := d.2) h4]
          simp [itemB]
def fitI (i : It) : Prop := 0 ≤ i.kind ∧ i.kind ≤ 255 ∧ i.name.size ≤ 255 ∧ (-9223372036854775808 ≤ i.n ∧ i.n ≤ 9223372036854775807) ∧ (-9223372036854775808 ≤ i.at_ ∧ i.at_ ≤ 9223372036854775807)
theorem pItem_there (i : It) (r : List UInt8) (h : fitI i) : pItem (itemB i ++ r) = some (i, r) := by
  obtain ⟨k0, k1, hn, ⟨n0, n1⟩, a0, a1⟩ := h
  obtain ⟨kd, nn, att, nm⟩ := i
  simp only at *
  unfold pItem itemB
  rw [List.cons_append, pByte_cons, byteOf_nat, Int.emod_eq_of_lt k0 (by omega)]
  simp only [List.append_assoc, Option.bind_some]
  rw [pText_there nm _ hn]
  simp only [Option.bind_some]
  rw [pNum_there nn _ n0 n1]
  simp only [Option.bind_some]
  rw [pNum_there att _ a0 a1]
  simp only [Option.bind_some, strOf_back]
theorem pItems_back : ∀ (n : Nat) (l r : List UInt8) (x : List It), pItems n l = some (x, r) → l = x.flatMap itemB ++ r
  | 0, l, r, x, h => by cases h; rfl
  | n + 1, l, r, x, h => by
    unfold pItems at h
    cases h1 : pItem l with
    | none => rw [h1] at h; cases h
    | some a =>
      rw [h1] at h
      simp only [Option.bind_some] at h
      cases h2 : pItems n a.2 with
      | none => rw [h2] at h; cases h
      | some b =>
        rw [h2] at h
        cases h
        rw [pItem_back (i := a.1) (r := a.2) h1, pItems_back n a.2 b.2 b.1 h2]
        simp
theorem pItems_there : ∀ (x : List It) (r : List UInt8), (∀ i ∈ x, fitI i) → pItems x.length (x.flatMap itemB ++ r) = some (x, r)
  | [], r, _ => rfl
  | i :: x, r, h => by
    show pItems (x.length + 1) _ = _
    unfold pItems
    rw [List.flatMap_cons, List.append_assoc, pItem_there i _ (h i (List.mem_cons_self ..))]
    simp only [Option.bind_some]
    rw [pItems_there x r (fun j hj => h j (List.mem_cons_of_mem _ hj))]
    rfl
theorem pFace_back {l r : List UInt8} {f : Fc} (h : pFace l = some (f, r)) : l = faceB f ++ r := by
  unfold pFace at h
  cases h1 : pText l with
  | none => rw [h1] at h; cases h
  | some a =>
    cases h2 : pByte a.2 with
    | none => rw [h1] at h; simp [h2] at h
    | some b =>
      cases h3 : pItems b.1.toNat b.2 with
      | none => rw [h1] at h; simp [h2, h3] at h
      | some c =>
        rw [h1] at h
        simp [h2, h3] at h
        have h5 := pByte_lo (n := b.1) (r := b.2) h2
        have h6 := (pItems_fit _ _ c.2 c.1 h3).1
        have h7 : ((c.1.length : Nat) : Int) = b.1 := by rw [h6]; omega
        rw [← h.1, ← h.2, pText_back (x := a.1) (r := a.2) h1, pByte_back (n := b.1) (r := b.2) h2, pItems_back _ _ c.2 c.1 h3]
        unfold faceB
        simp [h7]

end Go.Proofs.Ytidhbgidkgopfaa
