/-
  The reference's machine: a cell of its data, of its top frame's locals, the numbers that come in.
-/
import Derived.Test.YtljdoholcdhkhaaGt
import Derived.Test.YtljdoholcdhkhaaOpt
namespace Go.Proofs.Ytljdoholcdhkhaa
open Go.RowKit Go.Shelf
set_option maxRecDepth 100000

theorem gF_same : ∀ (lv : List Value) (gs : List (List Int × Int)) (f h : List Int × Int), f.2 = h.2 → gF lv (gs ++ [f]) = gF lv (gs ++ [h])
  | [], [], _, _, _ => rfl
  | [], _ :: _, _, _, _ => rfl
  | x :: r, [], f, h, e => by simp [gF, e]
  | x :: r, g :: gs, f, h, e => by
    show x :: Value.int .i64 g.2 :: gF r (gs ++ [f]) = x :: Value.int .i64 g.2 :: gF r (gs ++ [h])
    rw [gF_same r gs f h e]
theorem getD_low (gs : List (List Int × Int)) (f h : List Int × Int) (i : Nat) (hi : i < gs.length) : (gs ++ [f]).getD i ([], 0) = (gs ++ [h]).getD i ([], 0) := by
  simp [List.getD_eq_getElem?_getD, List.getElem?_append_left hi]
theorem getD_top (gs : List (List Int × Int)) (f : List Int × Int) : (gs ++ [f]).getD gs.length ([], 0) = f := by simp

section
variable {B R : Nat} {mt : Int} {w0 w : World} {T : Nat → Nat} {v : Gv} {g : Rg.G}
theorem GAt.cellDa (h : GAt B R mt w0 w T v g) {q cap : Nat} (hv : v.da = .slice (some ⟨q, 0, none⟩) g.s.data.length cap) (k : Nat) (x : Int) : GAt B R mt w0 (w.setCell ⟨q, k, none⟩ (.int .i64 x)) T v ⟨{ g.s with data := g.s.data.set k x }, g.o⟩ := by
  have hm : T q = 5 := h.da.mark q (by rw [hv]; rfl)
  have hB : B ≤ q := (h.da.own.lt q (by rw [hv]; rfl)).1
  have keep := apart (w := w) hm k (.int .i64 x)
  exact { h with
    blk := (keep 1 (by decide) R h.ltR h.tR).trans h.blk
    st := h.st.keep (keep 2 (by decide)) (fun _ _ e => e)
    lo := fun i hi => (h.lo i hi).keep (keep (10 + i) (by omega)) (fun _ _ e => e)
    fr := h.fr.keep (keep 4 (by decide)) (fun _ _ e => e)
    ou := h.ou.keep (keep 6 (by decide)) (fun _ _ e => e)
    da := by
      have ho := h.da.own
      rw [hv] at ho
      have h2 := ownsRow_set ho k (.int .i64 x)
      rw [ints_set] at h2
      refine ⟨?_, h.da.mark⟩
      rw [hv, List.length_set]
      exact h2
    below := h.below.setCell (p := ⟨q, k, none⟩) hB _
    bda := by rw [List.length_set]; exact h.bda
    kp := h.kept (keep 7 (by decide)) (fun _ _ e => e) }
theorem GAt.cellLo (h : GAt B R mt w0 w T v g) {q cap : Nat} (hv : v.lv[g.s.gs.length]? = some (.slice (some ⟨q, 0, none⟩) g.s.lo.length cap)) (k : Nat) (x : Int) : GAt B R mt w0 (w.setCell ⟨q, k, none⟩ (.int .i64 x)) T v ⟨{ g.s with lo := g.s.lo.set k x }, g.o⟩ := by
  have hll := h.ll
  have hlt : g.s.gs.length < v.lv.length := by omega
  have hv' : v.lv[g.s.gs.length] = .slice (some ⟨q, 0, none⟩) g.s.lo.length cap := by
    rw [List.getElem?_eq_getElem hlt] at hv
    exact Option.some.inj hv
  have ht := h.lo g.s.gs.length hlt
  rw [hv', getD_top] at ht
  have hm : T q = 10 + g.s.gs.length := ht.mark q rfl
  have hB : B ≤ q := (ht.own.lt q rfl).1
  have keep := apart (w := w) hm k (.int .i64 x)
  exact { h with
    blk := (keep 1 (by omega) R h.ltR h.tR).trans h.blk
    st := h.st.keep (keep 2 (by omega)) (fun _ _ e => e)
    da := h.da.keep (keep 5 (by omega)) (fun _ _ e => e)
    fr := by
      have := h.fr.keep (keep 4 (by omega)) (fun _ _ e => e)
      rw [gF_same v.lv g.s.gs (g.s.lo, g.s.bk) (g.s.lo.set k x, g.s.bk) rfl] at this
      exact this
    ou := h.ou.keep (keep 6 (by omega)) (fun _ _ e => e)
    lo := fun i hi => by
      by_cases e : i = g.s.gs.length
      · subst e
        have h2 := ownsRow_set ht.own k (.int .i64 x)
        rw [ints_set] at h2
        show Own _ T B (10 + g.s.gs.length) 3 1 v.lv[g.s.gs.length] ((g.s.gs ++ [(g.s.lo.set k x, g.s.bk)]).getD g.s.gs.length ([], 0)).1.length (ints ((g.s.gs ++ [(g.s.lo.set k x, g.s.bk)]).getD g.s.gs.length ([], 0)).1)
        rw [getD_top, hv']
        refine ⟨?_, ht.mark⟩
        show World.ownsRow _ B 3 1 _ (g.s.lo.set k x).length _
        rw [List.length_set]
        exact h2
      · have hi' : i < g.s.gs.length := by omega
        show Own _ T B (10 + i) 3 1 v.lv[i] ((g.s.gs ++ [(g.s.lo.set k x, g.s.bk)]).getD i ([], 0)).1.length (ints ((g.s.gs ++ [(g.s.lo.set k x, g.s.bk)]).getD i ([], 0)).1)
        rw [getD_low g.s.gs (g.s.lo.set k x, g.s.bk) (g.s.lo, g.s.bk) i hi']
        exact (h.lo i hi).keep (keep (10 + i) (by omega)) (fun _ _ e => e)
    below := h.below.setCell (p := ⟨q, k, none⟩) hB _
    blo := by rw [List.length_set]; exact h.blo
    kp := h.kept (keep 7 (by omega)) (fun _ _ e => e) }
theorem GAt.setIn (h : GAt B R mt w0 w T v g) (x : Value) (l : List Int) (hi : IntsAt w0 B x l) (hl : l.length ≤ 64) : GAt B R mt w0 (w.setCell ⟨R, 4, none⟩ x) T { v with iv := x } ⟨{ g.s with inp := l }, g.o⟩ := by
  have hk : ∀ m, m ≠ 1 → ∀ k, k < w.heap.size → T k = m → (w.setCell ⟨R, 4, none⟩ x).heap[k]? = w.heap[k]? := fun m hm k _ e =>
    Below.heap_setCell w ⟨R, 4, none⟩ x k (fun e' => by subst e'; exact hm (e.symm.trans h.tR))
  exact { h with
    blk := by rw [heap_set h.blk]; rfl
    st := h.st.keep (hk 2 (by decide)) (fun _ _ e => e)
    lo := fun i hi => (h.lo i hi).keep (hk (10 + i) (by omega)) (fun _ _ e => e)
    fr := h.fr.keep (hk 4 (by decide)) (fun _ _ e => e)
    da := h.da.keep (hk 5 (by decide)) (fun _ _ e => e)
    ou := h.ou.keep (hk 6 (by decide)) (fun _ _ e => e)
    below := h.below.setCell (p := ⟨R, 4, none⟩) h.hR x
    inp := hi
    bin := hl
    kp := h.kept (hk 7 (by decide)) (fun _ _ e => e) }
end

end Go.Proofs.Ytljdoholcdhkhaa
