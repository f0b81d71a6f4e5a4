/-
  The reference's machine: a place of the data, a place of the top frame's locals.
-/
import Derived.Test.YtljdoholcdhkhaaGq
namespace Go.Proofs.Ytljdoholcdhkhaa
open Go.RowKit Go.Shelf
set_option maxRecDepth 100000

theorem inB_len (l : List Int) (a : Int) : inB a 0 ((l.length : Int) - 1) = Mc.inB l a := by
  unfold inB Mc.inB
  congr 1
  exact decide_eq_decide.2 (by omega)

set_option maxHeartbeats 800000 in
theorem gdatum_any (B R : Nat) (mt : Int) (w0 : World) (F : Value × Option (Nat × Obj)) (L : List Value) (g : Rg.G) (n : Int) (w : World) (h : Gch B R mt w0 F L w g) :
    Calls Try.prog 27 #[.pointer (some ⟨R, 0, none⟩), .int .i64 n] w (GEnd B R mt w0 F L (.bool (!(Rg.dat n g).o)) (Rg.dat n g)) := by
  have HS : Hid (∀ W, Gch B R mt w0 F L W g → Calls Try.prog 19 #[.pointer (some ⟨R, 0, none⟩), .int .i64 6] W (GEnd B R mt w0 F L (.tuple #[]) (Rg.stop 6 g))) := fun W hW => gstop_any B R mt w0 F L g 6 W hW
  obtain ⟨T, ⟨st, fr, da, iv, ou, lv, bx⟩, h, hF, hL⟩ := h
  obtain ⟨a, cap, hv, hcap, hmax⟩ := h.da.form
  simp only at hv
  subst hv
  have HM : Hid (GAt B R mt w0 w T ⟨st, fr, .slice a g.s.data.length cap, iv, ou, lv, bx⟩ g) := h
  obtain ⟨-, -, -, c3, -, -, -, -, -, c9, -⟩ := h.cell
  simp only at c3
  unfold maxLen at hmax
  have hbda := h.bda
  have hRl := h.ltR
  have hw1 : IntKind.i64.wrap ((g.s.data.length : Int) - 1) = (g.s.data.length : Int) - 1 := by rw [IntKind.wrap_i64] <;> omega
  clear h
  by_cases hl : Mc.inB g.s.data n = true
  · have HP : Hid (Rg.dat n g = g) := if_pos hl
    have HI : Hid (inB n 0 ((g.s.data.length : Int) - 1) = true) := (inB_len _ _).trans hl
    clear hl
    go_enter Try.func27, Try.ntmps27
    go_wp2_with fail
    refine (within_any true _ _ _ _ HI.out).mono ?_
    rintro e w' ⟨rfl, rfl⟩
    go_wp2_with fail
    go_ret
    exact ⟨by rw [HP.out]; rfl, T, _, by rw [HP.out]; exact HM.out, hF, hL⟩
  · have HP : Hid (Rg.dat n g = Rg.stop 6 g) := if_neg hl
    have HI : Hid (inB n 0 ((g.s.data.length : Int) - 1) = false) := (inB_len _ _).trans (by simpa using hl)
    clear hl
    go_enter Try.func27, Try.ntmps27
    go_wp2_with fail
    refine (within_any false _ _ _ _ HI.out).mono ?_
    rintro e w' ⟨rfl, rfl⟩
    go_wp2_with fail
    refine (HS.out _ ⟨T, _, HM.out, hF, hL⟩).mono ?_
    rintro e w1 ⟨rfl, T1, v1, h1, hF1, hL1⟩
    have d9 := h1.cell.2.2.2.2.2.2.2.2.2.1
    rw [stop_over 6 g] at d9
    have H1 := hid h1
    clear h1
    go_wp2_with fail
    go_ret
    exact ⟨by rw [HP.out, stop_over 6 g]; rfl, T1, v1, by rw [HP.out]; exact H1.out, hF1, hL1⟩

/- the top frame in memory -/
theorem gF_get : ∀ (lv : List Value) (fs : List (List Int × Int)) (i : Nat), lv.length = fs.length → i < lv.length → (gF lv fs)[2 * i]? = lv[i]? ∧ (gF lv fs)[2 * i + 1]? = (fs[i]?).map (fun f => .int .i64 f.2)
  | [], _, i, _, h => by simp at h
  | x :: r, [], i, hl, _ => by simp at hl
  | x :: r, f :: fs, 0, _, _ => ⟨rfl, rfl⟩
  | x :: r, f :: fs, i + 1, hl, h => by
    have := gF_get r fs i (by simpa using hl) (by simpa using h)
    refine ⟨?_, ?_⟩
    · show (x :: Value.int .i64 f.2 :: gF r fs)[2 * i + 1 + 1]? = _
      simpa using this.1
    · show (x :: Value.int .i64 f.2 :: gF r fs)[2 * i + 1 + 1 + 1]? = _
      simpa using this.2
theorem GAt.top {B R : Nat} {mt : Int} {w0 w : World} {T : Nat → Nat} {v : Gv} {g : Rg.G} (h : GAt B R mt w0 w T v g) :
    ∃ q cap a lc, v.fr = .slice (some ⟨q, 0, none⟩) (g.s.gs.length + 1) cap ∧ g.s.gs.length + 1 ≤ cap ∧ cap ≤ maxLen ∧ B ≤ q ∧ q < w.heap.size ∧ T q = 4 ∧ (∀ j, w.frozen? ⟨q, j, none⟩ = false) ∧
      w.cell? ⟨q, 2 * g.s.gs.length, none⟩ = some (.slice a g.s.lo.length lc) ∧ w.cell? ⟨q, 2 * g.s.gs.length + 1, none⟩ = some (.int .i64 g.s.bk) ∧ v.lv[g.s.gs.length]? = some (.slice a g.s.lo.length lc) ∧
      Own w T B (10 + g.s.gs.length) 3 1 (.slice a g.s.lo.length lc) g.s.lo.length (ints g.s.lo) := by
  obtain ⟨q, cap, hv, h1, h2, h3, h4, h5, h6, h7⟩ := h.fr.place (by omega)
  have hll := h.ll
  have hlt : g.s.gs.length < v.lv.length := by omega
  have hfl : v.lv.length = (g.s.gs ++ [(g.s.lo, g.s.bk)]).length := by simp [hll]
  obtain ⟨k0, k1⟩ := gF_get v.lv (g.s.gs ++ [(g.s.lo, g.s.bk)]) g.s.gs.length hfl hlt
  have ho := h.lo g.s.gs.length hlt
  have hg : (g.s.gs ++ [(g.s.lo, g.s.bk)]).getD g.s.gs.length ([], 0) = (g.s.lo, g.s.bk) := by simp
  rw [hg] at ho
  obtain ⟨a, lc, hlv, _, _⟩ := ho.form
  simp only at hlv
  rw [hlv] at ho
  have hget : v.lv[g.s.gs.length]? = some (.slice a g.s.lo.length lc) := by rw [List.getElem?_eq_getElem hlt, hlv]
  refine ⟨q, cap, a, lc, hv, h1, h2, h3, h4, h5, h6, h7 _ _ (k0.trans hget), h7 _ _ (k1.trans (by simp)), hget, ho⟩

end Go.Proofs.Ytljdoholcdhkhaa
