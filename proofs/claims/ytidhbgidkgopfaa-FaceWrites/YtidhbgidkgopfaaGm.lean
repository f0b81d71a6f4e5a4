/-
  The reference's FaceFrom, as mathematics: over bytes that suffice the nose reads what the reader reads.
-/
import Derived.Test.YtidhbgidkgopfaaGl
namespace Go.Proofs.Ytidhbgidkgopfaa
open Go.RowKit Go.Shelf
set_option maxRecDepth 100000

def nItem (st : List UInt8 × Bool) : It × (List UInt8 × Bool) :=
  (⟨(nByte st).1, (nNum (nText (nByte st).2).2).1, (nNum (nNum (nText (nByte st).2).2).2).1, strOf (nText (nByte st).2).1⟩, (nNum (nNum (nText (nByte st).2).2).2).2)
def frGo : Nat → List It → List UInt8 × Bool → List It × (List UInt8 × Bool)
  | 0, acc, st => (acc, st)
  | m + 1, acc, st => if st.2 then (acc, st) else frGo m (acc ++ [(nItem st).1]) (nItem st).2
def frHead (l : List UInt8) : List UInt8 × (List UInt8 × Bool) := nText (l, false)
def frCnt (l : List UInt8) : Int × (List UInt8 × Bool) := nByte (frHead l).2
def frAll (l : List UInt8) : List It × (List UInt8 × Bool) := frGo (frCnt l).1.toNat [] (frCnt l).2
def frFace (l : List UInt8) : Fc := ⟨strOf (frHead l).1, (frAll l).1⟩
def frOk (l : List UInt8) : Bool := !(frAll l).2.2 && (decide (chkF (frFace l) = 0) && decide (faceB (frFace l) = l))
def frAns (l : List UInt8) : Fc × Bool := if frOk l then (frFace l, true) else (noF, false)

theorem nByte_of {l r : List UInt8} {n : Int} (h : pByte l = some (n, r)) : nByte (l, false) = (n, (r, false)) := by
  unfold pByte pTake at h
  split at h
  · cases h
  · cases l with
    | nil => rename_i h1; exact absurd (Nat.zero_lt_one) h1
    | cons c t =>
      simp [nByte] at h
      obtain ⟨rfl, rfl⟩ := h
      rfl
theorem nText_of {l x r : List UInt8} (h : pText l = some (x, r)) : nText (l, false) = (x, (r, false)) := by
  unfold pText at h
  cases hb : pByte l with
  | none => rw [hb] at h; cases h
  | some q =>
    rw [hb] at h
    obtain ⟨n, t⟩ := q
    have h1 := nByte_of hb
    have h2 : pTake n.toNat t = some (x, r) := h
    unfold pTake at h2
    split at h2
    · cases h2
    · rename_i h3
      simp at h2
      obtain ⟨rfl, rfl⟩ := h2
      unfold nText
      rw [h1]
      simp only
      have h0 := (pByte_lo (l := l) hb).1
      rw [if_neg (by omega)]
theorem nNumK_of : ∀ (x r : List UInt8) (n : Int), nNumK x.length n (x ++ r, false) = (x.foldl valStep n, (r, false))
  | [], _, _ => rfl
  | c :: x, r, n => by
    show nNumK x.length (wrap64 (n * 256 + (nByte (c :: (x ++ r), false)).1)) (nByte (c :: (x ++ r), false)).2 = _
    show nNumK x.length (wrap64 (n * 256 + (c.toNat : Int))) (x ++ r, false) = _
    rw [nNumK_of x r]
    rfl
theorem nNum_of {l r : List UInt8} {n : Int} (h : pNum l = some (n, r)) : nNum (l, false) = (n, (r, false)) := by
  unfold pNum pTake at h
  split at h
  · cases h
  · rename_i h1
    simp at h
    obtain ⟨rfl, rfl⟩ := h
    have h2 := nNumK_of (l.take 8) (l.drop 8) 0
    rw [List.take_append_drop, List.length_take_of_le (by omega)] at h2
    exact h2
theorem nItem_of {l r : List UInt8} {i : It} (h : pItem l = some (i, r)) : nItem (l, false) = (i, (r, false)) := by
  unfold pItem at h
  cases h1 : pByte l with
  | none => rw [h1] at h; cases h
  | some a =>
    cases h2 : pText a.2 with
    | none => rw [h1] at h; simp [h2] at h
    | some b =>
      cases h3 : pNum b.2 with
      | none => rw [h1] at h; simp [h2, h3] at h
      | some c =>
        cases h4 : pNum c.2 with
        | none => rw [h1] at h; simp [h2, h3, h4] at h
        | some d =>
          rw [h1] at h
          simp [h2, h3, h4] at h
          obtain ⟨rfl, rfl⟩ := h
          unfold nItem
          rw [nByte_of (n := a.1) (r := a.2) h1]
          simp only
          rw [nText_of (x := b.1) (r := b.2) h2]
          simp only
          rw [nNum_of (n := c.1) (r := c.2) h3]
          simp only
          rw [nNum_of (n := d.1) (r := d.2) h4]
theorem frGo_of : ∀ (n : Nat) (acc : List It) (l r : List UInt8) (x : List It), pItems n l = some (x, r) → frGo n acc (l, false) = (acc ++ x, (r, false))
  | 0, acc, l, r, x, h => by simp [pItems] at h; obtain ⟨rfl, rfl⟩ := h; simp [frGo]
  | n + 1, acc, l, r, x, h => by
    unfold pItems at h
    cases h1 : pItem l with
    | none => rw [h1] at h; cases h
    | some a =>
      rw [h1] at h
      cases h2 : pItems n a.2 with
      | none => simp [h2] at h
      | some b =>
        simp [h2] at h
        obtain ⟨rfl, rfl⟩ := h
        show (if false = true then _ else frGo n (acc ++ [(nItem (l, false)).1]) (nItem (l, false)).2) = _
        rw [if_neg (by decide), nItem_of (i := a.1) (r := a.2) h1]
        simp only
        rw [frGo_of n _ a.2 b.2 b.1 h2]
        simp
theorem frAll_of {l r : List UInt8} {f : Fc} (h : pFace l = some (f, r)) : frFace l = f ∧ (frAll l).2 = (r, false) := by
  unfold pFace at h
  cases h1 : pText l with
  | none => rw [h1] at h; cases h
  | some a =>
    cases h2 : pByte a.2 with
    | none => rw [h1] at h; simp [h2] at h
    | some b =>
      cases h3 : pItems b.1.toNat b.2 with
      | none => rw [h1] at h; simp [h2, h3] at h
      | some c =>
        rw [h1] at h
        simp [h2, h3] at h
        obtain ⟨rfl, rfl⟩ := h
        have e1 : frHead l = (a.1, (a.2, false)) := nText_of h1
        have e2 : frCnt l = (b.1, (b.2, false)) := by unfold frCnt; rw [e1]; exact nByte_of h2
        have e3 : frAll l = ([] ++ c.1, (c.2, false)) := by unfold frAll; rw [e2]; exact frGo_of _ _ _ _ _ h3
        rw [List.nil_append] at e3
        exact ⟨by unfold frFace; rw [e1, e3], by rw [e3]⟩
/- what FaceFrom answers is what Read answers, if there are not too many bytes -/
theorem frAns_rdF (l : List UInt8) (hl : ¬ 32768 < l.length) : (frAns l).1 = (rdF l).1 ∧ (rdF l).2 = if (frAns l).2 then 0 else 1 := by
  by_cases h : frOk l = true
  · have h' := h
    unfold frOk at h'
    simp only [Bool.and_eq_true, decide_eq_true_eq, Bool.not_eq_true'] at h'
    obtain ⟨_, h2, h3⟩ := h'
    have h4 := rdF_there h2
    rw [h3] at h4
    rw [h4, show frAns l = (frFace l, true) from if_pos h]
    exact ⟨rfl, rfl⟩
  · rw [show frAns l = (noF, false) from if_neg h]
    unfold rdF
    rw [if_neg hl]
    cases hw : wOk l with
    | none => exact ⟨rfl, rfl⟩
    | some f =>
      simp only
      by_cases hc : chkF f = 0
      · exfalso
        apply h
        have hb := wOk_back hw
        obtain ⟨h1, h2, _, h4⟩ := chk_zero hc
        have h5 := nameOk_size h2
        have h7 := pFace_there f [] (by omega) (by omega) (fun i hi => itemOk_fit (List.all_eq_true.1 h4 i hi))
        rw [List.append_nil, ← hb] at h7
        obtain ⟨e1, e2⟩ := frAll_of h7
        unfold frOk
        rw [e1, e2, hc, ← hb]
        simp
      · rw [if_neg hc]; exact ⟨rfl, rfl⟩

theorem nText_len (st : List UInt8 × Bool) : (nText st).2.1.length ≤ st.1.length ∧ (nText st).1.length ≤ 255 := by
  have h1 := nByte_len st
  have h2 := nByte_lo st
  unfold nText
  split
  · exact ⟨h1, Nat.zero_le _⟩
  · refine ⟨?_, ?_⟩
    · show ((nByte st).2.1.drop _).length ≤ _; rw [List.length_drop]; omega
    · show ((nByte st).2.1.take _).length ≤ _; rw [List.length_take]; omega
theorem nNumK_len : ∀ (k : Nat) (n : Int) (st : List UInt8 × Bool), (nNumK k n st).2.1.length ≤ st.1.length
  | 0, _, _ => Nat.le_refl _
  | k + 1, _, st => Nat.le_trans (nNumK_len k _ _) (nByte_len st)
theorem nNum_len (st : List UInt8 × Bool) : (nNum st).2.1.length ≤ st.1.length := by
  unfold nNum
  exact nNumK_len 8 0 st
theorem nTwo_len (F : List UInt8 × Bool → Int × (List UInt8 × Bool)) (hF : ∀ s, (F s).2.1.length ≤ s.1.length) (st : List UInt8 × Bool) : (F (F (nText (nByte st).2).2).2).2.1.length ≤ st.1.length :=
  Nat.le_trans (hF _) (Nat.le_trans (hF _) (Nat.le_trans (nText_len (nByte st).2).1 (nByte_len st)))
theorem nItem_len (st : List UInt8 × Bool) : (nItem st).2.1.length ≤ st.1.length := by
  have h := nTwo_len nNum nNum_len st
  dsimp only [nItem]
  exact h
theorem nItem_name (st : List UInt8 × Bool) : (nItem st).1.name.size ≤ 255 := by
  show (strOf _).size ≤ 255
  rw [strOf_size]; exact (nText_len _).2
theorem frGo_fit : ∀ (m : Nat) (acc : List It) (st : List UInt8 × Bool), (∀ i ∈ acc, i.name.size ≤ 255) → (∀ i ∈ (frGo m acc st).1, i.name.size ≤ 255) ∧ (frGo m acc st).1.length ≤ acc.length + m
  | 0, acc, st, h => ⟨h, Nat.le_refl _⟩
  | m + 1, acc, st, h => by
    unfold frGo
    split
    · exact ⟨h, Nat.le_add_right _ _⟩
    · have := frGo_fit m (acc ++ [(nItem st).1]) (nItem st).2 (fun i hi => by
        rcases List.mem_append.1 hi with h1 | h1
        · exact h i h1
        · rw [List.mem_singleton.1 h1]; exact nItem_name st)
      refine ⟨this.1, ?_⟩
      have h2 := this.2
      rw [List.length_append] at h2
      simp only [List.length_cons, List.length_nil] at h2
      omega
theorem frFace_fit (l : List UInt8) : (frFace l).items.length ≤ 255 ∧ (frFace l).name.size ≤ 255 ∧ ∀ i ∈ (frFace l).items, i.name.size ≤ 255 := by
  have h := frGo_fit (frCnt l).1.toNat [] (frCnt l).2 (fun i hi => by cases hi)
  have h2 := nByte_lo (frHead l).2
  refine ⟨?_, ?_, h.1⟩
  · have h3 := h.2
    show (frGo (frCnt l).1.toNat [] (frCnt l).2).1.length ≤ 255
    have h4 : (frCnt l).1 ≤ 255 := h2.2
    simp only [List.length_nil] at h3
    omega
  · show (strOf _).size ≤ 255
    rw [strOf_size]; exact (nText_len _).2

end Go.Proofs.Ytidhbgidkgopfaa
