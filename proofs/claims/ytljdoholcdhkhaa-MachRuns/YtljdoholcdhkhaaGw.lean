/-
  The reference's machine: a frame more, a frame fewer.
-/
import Derived.Test.YtljdoholcdhkhaaGu
namespace Go.Proofs.Ytljdoholcdhkhaa
open Go.RowKit Go.Shelf
set_option maxRecDepth 100000

theorem gF_snoc : ∀ (lv : List Value) (fs : List (List Int × Int)) (x : Value) (f : List Int × Int), lv.length = fs.length → gF (lv ++ [x]) (fs ++ [f]) = gF lv fs ++ [x, .int .i64 f.2]
  | [], [], _, _, _ => rfl
  | [], _ :: _, _, _, h => by simp at h
  | _ :: _, [], _, _, h => by simp at h
  | y :: r, g :: fs, x, f, h => by
    show y :: Value.int .i64 g.2 :: gF (r ++ [x]) (fs ++ [f]) = y :: Value.int .i64 g.2 :: (gF r fs ++ [x, .int .i64 f.2])
    rw [gF_snoc r fs x f (by simpa using h)]
theorem gF_length : ∀ (lv : List Value) (fs : List (List Int × Int)), lv.length = fs.length → (gF lv fs).length = 2 * fs.length
  | [], [], _ => rfl
  | [], _ :: _, h => by simp at h
  | _ :: _, [], h => by simp at h
  | y :: r, g :: fs, h => by
    show (y :: Value.int .i64 g.2 :: gF r fs).length = _
    simp only [List.length_cons]
    rw [gF_length r fs (by simpa using h)]
    omega
section
variable {B R : Nat} {mt : Int} {w0 w : World} {T : Nat → Nat} {v : Gv} {g : Rg.G}
theorem GAt.moreFr (h : GAt B R mt w0 w T v g) {w1 : World} {x : Value} {nx : Int} (hg : w.grownBy w1 v.fr.ownBlock)
    (ho : w1.ownsRow B 53 2 x (g.s.gs.length + 2) (gF v.lv (g.s.gs ++ [(g.s.lo, g.s.bk)]) ++ [.slice none 0 0, .int .i64 nx]))
    (hat : ∀ k, x.ownBlock = some k → k < w.heap.size → v.fr.ownBlock = some k) (hgs : g.s.gs.length ≤ 24) :
    GAt B R mt w0 (w1.setCell ⟨R, 2, none⟩ x) (grownT w T 4) { v with fr := x, lv := v.lv ++ [.slice none 0 0] } (Rg.called nx g) := by
  obtain ⟨hk, hR, hb⟩ := h.rest (m := 4) (fun k e => ⟨h.fr.mark k e, (h.fr.own.lt k e).1⟩) (by decide) hg 2 x
  have keep := h.keeps hk
  have hll := h.ll
  have hlf : v.lv.length = (g.s.gs ++ [(g.s.lo, g.s.bk)]).length := by simp [hll]
  exact {
    blk := by rw [heap_set (hR.trans h.blk)]; rfl
    hR := h.hR
    tR := grownT_old 4 1 R h.ltR h.tR
    st := h.st.keep (keep 2 (by decide) (by decide)) (grownT_old 4 2)
    fr := by
      have := h.row (fun k e => h.fr.mark k e) (by decide) ho hat 2 x
      show Own _ _ B 4 53 2 x ((g.s.gs ++ [(g.s.lo, g.s.bk)]).length + 1) (gF (v.lv ++ [.slice none 0 0]) ((g.s.gs ++ [(g.s.lo, g.s.bk)]) ++ [([], nx)]))
      rw [gF_snoc _ _ _ _ hlf, List.length_append]
      exact this
    ll := by
      show (v.lv ++ [Value.slice none 0 0]).length = (g.s.gs ++ [(g.s.lo, g.s.bk)]).length + 1
      rw [List.length_append, hlf]; rfl
    lo := fun i hi => by
      show Own _ _ B (10 + i) 3 1 (v.lv ++ [Value.slice none 0 0])[i] (((g.s.gs ++ [(g.s.lo, g.s.bk)]) ++ [([], nx)]).getD i ([], 0)).1.length (ints (((g.s.gs ++ [(g.s.lo, g.s.bk)]) ++ [([], nx)]).getD i ([], 0)).1)
      by_cases e : i < v.lv.length
      · rw [List.getElem_append_left e]
        have e2 : ((g.s.gs ++ [(g.s.lo, g.s.bk)]) ++ [([], nx)]).getD i ([], 0) = (g.s.gs ++ [(g.s.lo, g.s.bk)]).getD i ([], 0) := by
          rw [List.getD_eq_getElem?_getD, List.getD_eq_getElem?_getD, List.getElem?_append_left (by rw [← hlf]; exact e)]
        rw [e2]
        exact (h.lo i e).keep (keep (10 + i) (by omega) (by omega)) (grownT_old 4 (10 + i))
      · have hi' : i < (v.lv ++ [Value.slice none 0 0]).length := hi
        rw [List.length_append] at hi'
        simp only [List.length_cons, List.length_nil] at hi'
        have e3 : i = v.lv.length := by omega
        have e4 : (v.lv ++ [Value.slice none 0 0])[i] = Value.slice none 0 0 := by
          rw [List.getElem_append_right (by omega)]; simp [e3]
        rw [e4, e3, hlf, getD_top]
        exact ⟨⟨rfl, Or.inl ⟨rfl, rfl⟩⟩, fun k hk => by cases hk⟩
    da := h.da.keep (keep 5 (by decide) (by decide)) (grownT_old 4 5)
    ou := h.ou.keep (keep 6 (by decide) (by decide)) (grownT_old 4 6)
    below := hb
    inp := h.inp, bmt := h.bmt, bst := h.bst
    bgs := by
      show (g.s.gs ++ [(g.s.lo, g.s.bk)]).length ≤ 25
      rw [List.length_append]
      simp only [List.length_cons, List.length_nil]
      omega
    bfr := fun f hf => by
      have hf' : f ∈ g.s.gs ++ [(g.s.lo, g.s.bk)] := hf
      rcases List.mem_append.1 hf' with h1 | h1
      · exact h.bfr f h1
      · obtain rfl := List.mem_singleton.1 h1
        exact h.blo
    blo := Nat.zero_le _
    bda := h.bda, bou := h.bou, bin := h.bin, tk := h.tk
    kp := h.kept (keep 7 (by decide) (by decide)) (grownT_old 4 7) }
theorem GAt.lessFr (h : GAt B R mt w0 w T v g) {hs : List (List Int × Int)} {f : List Int × Int} {fa : Option Addr} {cap : Nat} (hgs : g.s.gs = hs ++ [f]) (hv : v.fr = .slice fa (g.s.gs.length + 1) cap) :
    GAt B R mt w0 (w.setCell ⟨R, 2, none⟩ (.slice fa g.s.gs.length cap)) (grownT w T 4) { v with fr := .slice fa g.s.gs.length cap, lv := v.lv.take g.s.gs.length } ⟨{ g.s with gs := hs, lo := f.1, bk := f.2 }, g.o⟩ := by
  obtain ⟨hk, hR, hb⟩ := h.rest (w1 := w) (m := 4) (fun k e => ⟨h.fr.mark k e, (h.fr.own.lt k e).1⟩) (by decide) (grown_refl _ _) 2 (.slice fa g.s.gs.length cap)
  have keep := h.keeps hk
  have hll := h.ll
  have hlen : g.s.gs.length = hs.length + 1 := by rw [hgs]; simp
  have hcut := (h.fr.cut (m := g.s.gs.length) (by omega) hv).own
  have hlt : (v.lv.take g.s.gs.length).length = g.s.gs.length := by rw [List.length_take]; omega
  have hsplit : v.lv = v.lv.take g.s.gs.length ++ [v.lv.getD g.s.gs.length (.slice none 0 0)] := by
    have h1 : g.s.gs.length < v.lv.length := by omega
    have h2 := List.take_succ_eq_append_getElem h1
    rw [List.take_of_length_le (by omega)] at h2
    rw [List.getD_eq_getElem?_getD, List.getElem?_eq_getElem h1]
    exact h2
  have hF : gF v.lv (g.s.gs ++ [(g.s.lo, g.s.bk)]) = gF (v.lv.take g.s.gs.length) g.s.gs ++ [v.lv.getD g.s.gs.length (.slice none 0 0), .int .i64 g.s.bk] := by
    have := gF_snoc (v.lv.take g.s.gs.length) g.s.gs (v.lv.getD g.s.gs.length (.slice none 0 0)) (g.s.lo, g.s.bk) hlt
    rw [← hsplit] at this
    exact this
  have hT : (gF v.lv (g.s.gs ++ [(g.s.lo, g.s.bk)])).take (g.s.gs.length * 2) = gF (v.lv.take g.s.gs.length) g.s.gs := by
    have hl := gF_length (v.lv.take g.s.gs.length) g.s.gs hlt
    rw [hF, List.take_append_of_le_length (by omega), List.take_of_length_le (by omega)]
  rw [hT] at hcut
  have he : hs ++ [(f.1, f.2)] = g.s.gs := hgs.symm
  exact {
    blk := by rw [heap_set (hR.trans h.blk)]; rfl
    hR := h.hR
    tR := grownT_old 4 1 R h.ltR h.tR
    st := h.st.keep (keep 2 (by decide) (by decide)) (grownT_old 4 2)
    fr := by
      have := h.row (fun k e => h.fr.mark k e) (by decide) hcut (fun k e _ => by rw [hv]; exact (show Value.ownBlock (.slice fa (g.s.gs.length + 1) cap) = Value.ownBlock (.slice fa g.s.gs.length cap) from by cases fa <;> rfl).trans e) 2 (.slice fa g.s.gs.length cap)
      show Own _ _ B 4 53 2 _ (hs.length + 1) (gF (v.lv.take g.s.gs.length) (hs ++ [(f.1, f.2)]))
      rw [he, ← hlen]
      exact this
    ll := by
      show (v.lv.take g.s.gs.length).length = hs.length + 1
      omega
    lo := fun i hi => by
      have hi' : i < (v.lv.take g.s.gs.length).length := hi
      have hi2 : i < v.lv.length := by omega
      show Own _ _ B (10 + i) 3 1 (v.lv.take g.s.gs.length)[i] ((hs ++ [(f.1, f.2)]).getD i ([], 0)).1.length (ints ((hs ++ [(f.1, f.2)]).getD i ([], 0)).1)
      have e2 : (hs ++ [(f.1, f.2)]).getD i ([], 0) = (g.s.gs ++ [(g.s.lo, g.s.bk)]).getD i ([], 0) := by
        rw [he, List.getD_eq_getElem?_getD, List.getD_eq_getElem?_getD, List.getElem?_append_left (by omega)]
      rw [e2, List.getElem_take]
      exact (h.lo i hi2).keep (keep (10 + i) (by omega) (by omega)) (grownT_old 4 (10 + i))
    da := h.da.keep (keep 5 (by decide) (by decide)) (grownT_old 4 5)
    ou := h.ou.keep (keep 6 (by decide) (by decide)) (grownT_old 4 6)
    below := hb
    inp := h.inp, bmt := h.bmt, bst := h.bst
    bgs := by
      show hs.length ≤ 25
      have := h.bgs
      omega
    bfr := fun q hq => h.bfr q (by rw [hgs]; exact List.mem_append_left _ hq)
    blo := h.bfr f (by rw [hgs]; simp)
    bda := h.bda, bou := h.bou, bin := h.bin, tk := h.tk
    kp := h.kept (keep 7 (by decide) (by decide)) (grownT_old 4 7) }
end

end Go.Proofs.Ytljdoholcdhkhaa
