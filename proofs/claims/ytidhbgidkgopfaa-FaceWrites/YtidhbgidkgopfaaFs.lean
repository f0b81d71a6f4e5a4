/-
  The program's lists of items.
-/
import Derived.Test.YtidhbgidkgopfaaFr
namespace Go.Proofs.Ytidhbgidkgopfaa
open Go.RowKit Go.Shelf
set_option maxRecDepth 100000

theorem info40 : (Try.prog.info? 40).map (fun i => (i.zero, i.size, i.bytes)) = some (some (.agg #[.int .i64 0, .int .i64 0, .int .i64 0, .string ⟨#[]⟩]), 4, 40) := by kernel_rfl
def cells1 (i : It) : List Value := [.int .i64 i.kind, .int .i64 i.n, .int .i64 i.at_, .string i.name]
def cellsL (l : List It) : List Value := l.flatMap cells1
def IRow (B : Nat) (w : World) (v : Value) (l : List It) : Prop := w.ownsRow B 40 4 v l.length (cellsL l)
theorem ownsRow_kept {W W' : World} {B : Nat} {e : TypeId} {size : Nat} {v : Value} {n : Nat} {xs : List Value} {rb : Nat} (h : W.ownsRow B e size v n xs) (hg : W.grownBy W' (some rb)) (hr : rb < B) : W'.ownsRow B e size v n xs := by
  refine ⟨h.1, ?_⟩
  rcases h.2 with h1 | ⟨g, cap, cur, hv, hB, hc, hq⟩
  · exact Or.inl h1
  · have hlt : g < W.heap.size := by
      rcases Nat.lt_or_ge g W.heap.size with h' | h'
      · exact h'
      · simp [Array.getElem?_eq_none h'] at hc
    exact Or.inr ⟨g, cap, cur, hv, hB, (hg.block g hlt (fun e => by cases e; omega)).trans hc, hq⟩
theorem cells_new (w : World) (c0 c1 c2 c3 : Value) (t : TypeId) : ∀ j u, [c0, c1, c2, c3][j]? = some u → (w.alloc (.cells #[c0, c1, c2, c3] t)).cell? ((⟨w.heap.size, 0, none⟩ : Addr).add j) = some u := by
  have h := Bx.new w t c0 c1 c2 c3
  intro j u hj
  have hlt : j < 4 := by
    rcases Nat.lt_or_ge j 4 with h' | h'
    · exact h'
    · rw [List.getElem?_eq_none (by simpa using h')] at hj; cases hj
  rw [show (⟨w.heap.size, 0, none⟩ : Addr).add j = ⟨w.heap.size, j, none⟩ from by unfold Addr.add; split <;> simp_all]
  match j, hlt with
  | 0, _ => cases hj; exact h.c0
  | 1, _ => cases hj; exact h.c1
  | 2, _ => cases hj; exact h.c2
  | 3, _ => cases hj; exact h.c3
def pItems : Nat → List UInt8 → Option (List It × List UInt8)
  | 0, l => some ([], l)
  | n + 1, l => (pItem l).bind fun a => (pItems n a.2).map fun b => (a.1 :: b.1, b.2)
def pAcc (acc : List It) (n : Nat) (l : List UInt8) : Option (List It × List UInt8) := (pItems n l).map fun b => (acc ++ b.1, b.2)
theorem pAcc_none {acc : List It} {n : Nat} {l : List UInt8} (h : pItem l = none) : pAcc acc (n + 1) l = none := by simp [pAcc, pItems, h]
theorem pAcc_some {acc : List It} {n : Nat} {l r : List UInt8} {i : It} (h : pItem l = some (i, r)) : pAcc acc (n + 1) l = pAcc (acc ++ [i]) n r := by
  simp [pAcc, pItems, h]
  rfl
theorem pAcc_zero (acc : List It) (l : List UInt8) : pAcc acc 0 l = some (acc, l) := by simp [pAcc, pItems]
theorem pItem_len {l r : List UInt8} {i : It} (h : pItem l = some (i, r)) : r.length ≤ l.length := by
  unfold pItem at h
  cases h1 : pByte l with
  | none => rw [h1] at h; cases h
  | some a =>
    cases h2 : pText a.2 with
    | none => rw [h1] at h; simp [h2] at h
    | some b =>
      cases h3 : pNum b.2 with
      | none => rw [h1] at h; simp [h2, h3] at h
      | some c =>
        cases h4 : pNum c.2 with
        | none => rw [h1] at h; simp [h2, h3, h4] at h
        | some d =>
          rw [h1] at h
          simp [h2, h3, h4] at h
          have y1 := (pByte_lo (n := a.1) (r := a.2) h1).2.2
          have y2 := pText_len (x := b.1) (r := b.2) h2
          have y3 := pNum_len (n := c.1) (r := c.2) h3
          have y4 := pNum_len (n := d.1) (r := d.2) h4
          rw [← h.2]
          omega
theorem cellsL_snoc (l : List It) (i : It) : cellsL l ++ cells1 i = cellsL (l ++ [i]) := by simp [cellsL]

end Go.Proofs.Ytidhbgidkgopfaa
