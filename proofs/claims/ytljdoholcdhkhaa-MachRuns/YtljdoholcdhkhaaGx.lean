/-
  The reference's machine: the top frame's locals are others.
-/
import Derived.Test.YtljdoholcdhkhaaGw
namespace Go.Proofs.Ytljdoholcdhkhaa
open Go.RowKit Go.Shelf
set_option maxRecDepth 100000

theorem ownsRow_set' {w : World} {B e sz g n cap : Nat} {xs : List Value} (h : w.ownsRow B e sz (.slice (some ⟨g, 0, none⟩) n cap) n xs) (k : Nat) (u : Value) : (w.setCell ⟨g, k, none⟩ u).ownsRow B e sz (.slice (some ⟨g, 0, none⟩) n cap) n (xs.set k u) := by
  refine ⟨by rw [List.length_set]; exact h.1, ?_⟩
  rcases h.2 with ⟨h1, _⟩ | ⟨g', cap', cur, h1, hb, hg, h3, h4, h5, h6⟩
  · cases h1
  · cases h1
    refine Or.inr ⟨g, cap, cur.setIfInBounds k u, rfl, hb, heap_set hg u, h3, h4, by rw [Array.size_setIfInBounds]; exact h5, ?_⟩
    rw [Array.toList_setIfInBounds, List.take_set, h6]
theorem gF_set : ∀ (lv : List Value) (fs : List (List Int × Int)) (i : Nat) (x : Value), lv.length = fs.length → (gF lv fs).set (2 * i) x = gF (lv.set i x) fs
  | [], [], _, _, _ => rfl
  | [], _ :: _, _, _, h => by simp at h
  | _ :: _, [], _, _, h => by simp at h
  | y :: r, g :: fs, 0, x, _ => rfl
  | y :: r, g :: fs, i + 1, x, h => by
    show (y :: Value.int .i64 g.2 :: gF r fs).set (2 * i + 1 + 1) x = y :: Value.int .i64 g.2 :: gF (r.set i x) fs
    rw [List.set_cons_succ, List.set_cons_succ, gF_set r fs i x (by simpa using h)]
section
variable {B R : Nat} {mt : Int} {w0 w : World} {T : Nat → Nat} {v : Gv} {g : Rg.G}
theorem GAt.drew (h : GAt B R mt w0 w T v g) : GAt B R mt w0 w.drew T v g := h.later (Below.refl _ _).drew
theorem GAt.setTop (h : GAt B R mt w0 w T v g) {w1 : World} {x y : Value} {l : List Int} {q cap : Nat} (hv : v.fr = .slice (some ⟨q, 0, none⟩) (g.s.gs.length + 1) cap) (hy : v.lv[g.s.gs.length]? = some y)
    (hg : w.grownBy w1 y.ownBlock) (ho : w1.ownsRow B 3 1 x l.length (ints l)) (hat : ∀ k, x.ownBlock = some k → k < w.heap.size → y.ownBlock = some k) (hl : l.length ≤ 2048) :
    GAt B R mt w0 (w1.setCell ⟨q, 2 * g.s.gs.length, none⟩ x) (grownT w T (10 + g.s.gs.length)) { v with lv := v.lv.set g.s.gs.length x } ⟨{ g.s with lo := l }, g.o⟩ := by
  have hll := h.ll
  have hlt : g.s.gs.length < v.lv.length := by omega
  have hlf : v.lv.length = (g.s.gs ++ [(g.s.lo, g.s.bk)]).length := by simp [hll]
  have hy' : v.lv[g.s.gs.length] = y := by
    rw [List.getElem?_eq_getElem hlt] at hy
    exact Option.some.inj hy
  have ht := h.lo g.s.gs.length hlt
  rw [hy', getD_top] at ht
  have hq4 : T q = 4 := h.fr.mark q (by rw [hv]; rfl)
  obtain ⟨hBq, hql⟩ := h.fr.own.lt q (by rw [hv]; rfl)
  have k1 : ∀ k, k < w.heap.size → T k ≠ 10 + g.s.gs.length → w1.heap[k]? = w.heap[k]? := fun k hk hne => hg.block k hk (fun e => hne (ht.mark k e.symm))
  have k2 : ∀ k, k ≠ q → (w1.setCell ⟨q, 2 * g.s.gs.length, none⟩ x).heap[k]? = w1.heap[k]? := fun k hk => Below.heap_setCell w1 ⟨q, 2 * g.s.gs.length, none⟩ x k hk
  have keep : ∀ a, a ≠ 4 → a ≠ 10 + g.s.gs.length → ∀ k, k < w.heap.size → T k = a → (w1.setCell ⟨q, 2 * g.s.gs.length, none⟩ x).heap[k]? = w.heap[k]? := fun a h1 h2 k hk e =>
    (k2 k (fun e' => by subst e'; exact h1 (e.symm.trans hq4))).trans (k1 k hk (by rw [e]; exact h2))
  have hmx : ∀ k, x.ownBlock = some k → grownT w T (10 + g.s.gs.length) k = 10 + g.s.gs.length := by
    intro k e
    by_cases hk : w.heap.size ≤ k
    · unfold grownT; rw [if_pos hk]
    · exact grownT_old _ _ k (by omega) (ht.mark k (hat k e (by omega)))
  have hqx : ∀ k, x.ownBlock = some k → k ≠ q := by
    rintro k e rfl
    have h1 := hmx k e
    rw [grownT_old (10 + g.s.gs.length) 4 k hql hq4] at h1
    omega
  exact {
    blk := (keep 1 (by omega) (by omega) R h.ltR h.tR).trans h.blk
    hR := h.hR
    tR := grownT_old _ 1 R h.ltR h.tR
    st := h.st.keep (keep 2 (by omega) (by omega)) (grownT_old _ 2)
    fr := by
      have f1 := h.fr.keep (w' := w1) (T' := T) (fun k hk e => k1 k hk (by omega)) (fun _ _ e => e)
      have f2 := f1.own
      rw [hv] at f2
      have f3 := ownsRow_set' f2 (2 * g.s.gs.length) x
      rw [gF_set _ _ _ _ hlf, gF_same _ g.s.gs (g.s.lo, g.s.bk) (l, g.s.bk) rfl] at f3
      refine ⟨by rw [hv]; exact f3, fun k e => grownT_old _ 4 k (h.fr.own.lt k e).2 (h.fr.mark k e)⟩
    ll := by
      show (v.lv.set g.s.gs.length x).length = g.s.gs.length + 1
      rw [List.length_set]; exact hll
    lo := fun i hi => by
      show Own _ _ B (10 + i) 3 1 (v.lv.set g.s.gs.length x)[i] ((g.s.gs ++ [(l, g.s.bk)]).getD i ([], 0)).1.length (ints ((g.s.gs ++ [(l, g.s.bk)]).getD i ([], 0)).1)
      have hi' : i < (v.lv.set g.s.gs.length x).length := hi
      have hi2 : i < v.lv.length := by rw [List.length_set] at hi'; exact hi'
      by_cases e : i = g.s.gs.length
      · subst e
        rw [getD_top, List.getElem_set_self]
        refine ⟨⟨ho.1, ?_⟩, hmx⟩
        rcases ho.2 with h1 | ⟨p, pc, cur, hp, hbp, hgp, hr⟩
        · exact Or.inl h1
        · exact Or.inr ⟨p, pc, cur, hp, hbp, (k2 p (hqx p (by rw [hp]; rfl))).trans hgp, hr⟩
      · rw [List.getElem_set_ne (fun e' => e e'.symm), getD_low g.s.gs (l, g.s.bk) (g.s.lo, g.s.bk) i (by omega)]
        exact (h.lo i hi2).keep (keep (10 + i) (by omega) (by omega)) (grownT_old _ (10 + i))
    da := h.da.keep (keep 5 (by omega) (by omega)) (grownT_old _ 5)
    ou := h.ou.keep (keep 6 (by omega) (by omega)) (grownT_old _ 6)
    below := (h.below.grown hg h.hB (fun k e => (ht.own.lt k e).1)).setCell (p := ⟨q, 2 * g.s.gs.length, none⟩) hBq x
    inp := h.inp, bmt := h.bmt, bst := h.bst, bgs := h.bgs, bfr := h.bfr
    blo := hl
    bda := h.bda, bou := h.bou, bin := h.bin, tk := h.tk
    kp := h.kept (keep 7 (by omega) (by omega)) (grownT_old _ 7) }
end

end Go.Proofs.Ytljdoholcdhkhaa
