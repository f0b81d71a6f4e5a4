/-
  The reference's machine: a place of the top frame's locals.
-/
import Derived.Test.YtljdoholcdhkhaaGr
namespace Go.Proofs.Ytljdoholcdhkhaa
open Go.RowKit Go.Shelf
set_option maxRecDepth 100000

set_option maxHeartbeats 800000 in
theorem glocal_any (B R : Nat) (mt : Int) (w0 : World) (F : Value × Option (Nat × Obj)) (L : List Value) (g : Rg.G) (n : Int) (w : World) (h : Gch B R mt w0 F L w g) :
    Calls Try.prog 25 #[.pointer (some ⟨R, 0, none⟩), .int .i64 n] w (GEnd B R mt w0 F L (.bool (!(Rg.loc n g).o)) (Rg.loc n g)) := by
  have HS : Hid (∀ W, Gch B R mt w0 F L W g → Calls Try.prog 19 #[.pointer (some ⟨R, 0, none⟩), .int .i64 6] W (GEnd B R mt w0 F L (.tuple #[]) (Rg.stop 6 g))) := fun W hW => gstop_any B R mt w0 F L g 6 W hW
  obtain ⟨T, ⟨st, fr, da, iv, ou, lv, bx⟩, h, hF, hL⟩ := h
  obtain ⟨q, cap, a, lc, hv, hcap, hmax, -, hql, -, -, t0, -, -, -⟩ := h.top
  simp only at hv
  subst hv
  have HM : Hid (GAt B R mt w0 w T ⟨st, .slice (some ⟨q, 0, none⟩) (g.s.gs.length + 1) cap, da, iv, ou, lv, bx⟩ g) := h
  obtain ⟨-, -, c2, -, -, -, -, -, -, c9, -⟩ := h.cell
  simp only at c2
  unfold maxLen at hmax
  have hblo := h.blo
  have hbgs := h.bgs
  have hRl := h.ltR
  have hw1 : IntKind.i64.wrap ((g.s.lo.length : Int) - 1) = (g.s.lo.length : Int) - 1 := by rw [IntKind.wrap_i64] <;> omega
  have hw2 : IntKind.i64.wrap (((g.s.gs.length + 1 : Nat) : Int) - 1) = (g.s.gs.length : Int) := by rw [IntKind.wrap_i64] <;> omega
  have t0' : w.cell? ⟨q, g.s.gs.length * 2, none⟩ = some (.slice a g.s.lo.length lc) := by rw [Nat.mul_comm]; exact t0
  clear h t0
  obtain ⟨k, hk⟩ : ∃ k, g.s.gs.length = k := ⟨_, rfl⟩
  rw [hk] at c2 hw2 t0' hcap hbgs
  have HK := hid hk
  clear hk
  by_cases hl : Mc.inB g.s.lo n = true
  · have HP : Hid (Rg.loc n g = g) := if_pos hl
    have HI : Hid (inB n 0 ((g.s.lo.length : Int) - 1) = true) := (inB_len _ _).trans hl
    clear hl
    go_enter Try.func25, Try.ntmps25
    go_wp2_with fail
    go_quiet ((go_at_call 18; exact Calls.quiet_of_same (within_any true _ _ _ _ HI.out)))
    go_wp2_with fail
    go_ret
    exact ⟨by rw [HP.out]; rfl, T, _, by rw [HP.out]; exact HM.out.drewN _, hF, hL⟩
  · have HP : Hid (Rg.loc n g = Rg.stop 6 g) := if_neg hl
    have HI : Hid (inB n 0 ((g.s.lo.length : Int) - 1) = false) := (inB_len _ _).trans (by simpa using hl)
    clear hl
    go_enter Try.func25, Try.ntmps25
    go_wp2_with fail
    go_quiet ((go_at_call 18; exact Calls.quiet_of_same (within_any false _ _ _ _ HI.out)))
    go_wp2_with fail
    refine (HS.out _ ⟨T, _, HM.out.drewN _, hF, hL⟩).mono ?_
    rintro e w1 ⟨rfl, T1, v1, h1, hF1, hL1⟩
    have d9 := h1.cell.2.2.2.2.2.2.2.2.2.1
    rw [stop_over 6 g] at d9
    have H1 := hid h1
    clear h1
    go_wp2_with fail
    go_ret
    exact ⟨by rw [HP.out, stop_over 6 g]; rfl, T1, v1, by rw [HP.out]; exact H1.out, hF1, hL1⟩

end Go.Proofs.Ytljdoholcdhkhaa
