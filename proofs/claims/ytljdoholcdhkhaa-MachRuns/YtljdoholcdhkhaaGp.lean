/-
  The reference's machine: tick, pop, truth.
-/
import Derived.Test.YtljdoholcdhkhaaGm
import Derived.Deep.QuietTactic
import Derived.BigQuiet
namespace Go.Proofs.Ytljdoholcdhkhaa
open Go.RowKit Go.Shelf
set_option maxRecDepth 100000

theorem stop_over (n : Int) (g : Rg.G) : (Rg.stop n g).o = true := by
  unfold Rg.stop
  split
  · assumption
  · rfl
theorem nil_returned : (Ending.returned (.tuple #[]) : Ending) = .returned (.tuple #[]) := rfl

set_option maxHeartbeats 400000 in
theorem gtick_any (B R : Nat) (mt : Int) (w0 : World) (F : Value × Option (Nat × Obj)) (L : List Value) (g : Rg.G) (w : World) (h : Gch B R mt w0 F L w g) :
    Calls Try.prog 30 #[.pointer (some ⟨R, 0, none⟩)] w (GEnd B R mt w0 F L (.tuple #[]) (Rg.tick mt g)) := by
  have HS : Hid (∀ W, Gch B R mt w0 F L W g → Calls Try.prog 19 #[.pointer (some ⟨R, 0, none⟩), .int .i64 3] W (GEnd B R mt w0 F L (.tuple #[]) (Rg.stop 3 g))) := fun W hW => gstop_any B R mt w0 F L g 3 W hW
  obtain ⟨T, v, hm, hF, hL⟩ := h
  have HM := hid hm
  obtain ⟨-, -, -, -, -, -, c6, c7, -, c9, ff⟩ := hm.cell
  have f6 := ff 6
  have hlt := hm.ltR
  obtain ⟨t0, t1⟩ := hm.tk
  obtain ⟨m0, m1⟩ := hm.bmt
  clear hm ff
  by_cases hl : mt ≤ g.s.ticks
  · have HP : Hid (Rg.tick mt g = Rg.stop 3 g) := by
      show Rg.ticked (Rg.late mt g) = _
      unfold Rg.late
      rw [if_pos hl]
      unfold Rg.ticked
      rw [if_pos (stop_over 3 g)]
    go_enter Try.func30, Try.ntmps30
    go_wp2_with fail
    go_quiet ((fail))
    go_wp2_with fail
    refine (HS.out _ ⟨T, v, HM.out.drewN _, hF, hL⟩).mono ?_
    rintro e w1 ⟨rfl, T1, v1, h1, hF1, hL1⟩
    have d9 := h1.cell.2.2.2.2.2.2.2.2.2.1
    rw [stop_over 3 g] at d9
    have H1 := hid h1
    clear h1
    go_wp2_with fail
    go_end0
    exact ⟨rfl, T1, v1, by rw [HP.out]; exact H1.out, hF1, hL1⟩
  · have hl' : g.s.ticks < mt := by omega
    obtain ⟨s, o⟩ := g
    simp only at c6 c9 hl hl' t0 t1
    cases o with
    | true =>
      have HP : Hid (Rg.tick mt ⟨s, true⟩ = ⟨s, true⟩) := by
        show Rg.ticked (Rg.late mt _) = _
        unfold Rg.late
        rw [if_neg hl]; rfl
      clear hl
      go_enter Try.func30, Try.ntmps30
      go_wp2_with fail
      go_quiet ((fail))
      go_wp2_with fail
      go_end0
      exact ⟨rfl, T, v, by rw [HP.out]; exact HM.out.drewN _, hF, hL⟩
    | false =>
      have HP : Hid (Rg.tick mt ⟨s, false⟩ = ⟨{ s with ticks := s.ticks + 1 }, false⟩) := by
        show Rg.ticked (Rg.late mt _) = _
        unfold Rg.late
        rw [if_neg hl]; rfl
      clear hl
      go_enter Try.func30, Try.ntmps30
      go_wp2_with fail
      go_quiet ((fail))
      go_wp2_with fail
      go_end0
      exact ⟨rfl, T, v, by rw [HP.out]; exact (HM.out.drewN _).setTicks (s.ticks + 1) (by omega) (by omega), hF, hL⟩

set_option maxHeartbeats 800000 in
theorem gpop_any (B R : Nat) (mt : Int) (w0 : World) (F : Value × Option (Nat × Obj)) (L : List Value) (g : Rg.G) (w : World) (h : Gch B R mt w0 F L w g) :
    Calls Try.prog 26 #[.pointer (some ⟨R, 0, none⟩)] w (GEnd B R mt w0 F L (.int .i64 (Rg.pop g).1) (Rg.pop g).2) := by
  have HS : Hid (∀ W, Gch B R mt w0 F L W g → Calls Try.prog 19 #[.pointer (some ⟨R, 0, none⟩), .int .i64 6] W (GEnd B R mt w0 F L (.tuple #[]) (Rg.stop 6 g))) := fun W hW => gstop_any B R mt w0 F L g 6 W hW
  obtain ⟨T, ⟨st, fr, da, iv, ou, lv, bx⟩, h, hF, hL⟩ := h
  by_cases hl : 0 < g.s.stack.length
  · obtain ⟨k, hk⟩ : ∃ k, g.s.stack.length = k + 1 := ⟨g.s.stack.length - 1, by omega⟩
    have HP : Hid (Rg.pop g = (g.s.stack.getD k 0, ⟨{ g.s with stack := g.s.stack.take k }, g.o⟩)) := by
      show Rg.pop g = _
      unfold Rg.pop
      rw [if_pos hl, hk]; rfl
    obtain ⟨q, cap, hv, hcap, hmax, hBg, hgl, hmk, hfz, hcell⟩ := h.st.place hl
    simp only at hv
    subst hv
    have hx := hcell k _ (ints_get _ k (by omega))
    generalize g.s.stack.getD k 0 = x at *
    have hbst := h.bst
    rw [hk] at hbst hcap
    have HK : Hid (g.s.stack.length = k + 1) := hk
    have HM : Hid (GAt B R mt w0 w T ⟨.slice (some ⟨q, 0, none⟩) g.s.stack.length cap, fr, da, iv, ou, lv, bx⟩ g) := h
    obtain ⟨-, c1, -, -, -, -, -, -, -, -, ff⟩ := h.cell
    have f1 := ff 1
    have hlt := h.ltR
    simp only [hk] at c1
    unfold maxLen at hmax
    have hb0 : ((k + 1 : Nat) : Int) ≠ 0 := by omega
    have hb1 : (((k + 1 : Nat) : Int) == 0) = false := beq_eq_false_iff_ne.2 hb0
    have hw1 : IntKind.i64.wrap (((k + 1 : Nat) : Int) - 1) = (k : Int) := by rw [IntKind.wrap_i64] <;> omega
    clear h hcell hl hk ff
    go_enter Try.func26, Try.ntmps26
    go_wp2_with fail
    go_quiet ((fail))
    go_wp2_with fail
    have hlen : (g.s.stack.take k).length = k := by rw [List.length_take, HK.out]; omega
    have HE : Hid (∀ n, Gch B R mt w0 F L (((w.drewN n).setCell ⟨R, 1, none⟩ (.slice (some ⟨q, 0, none⟩) k cap))) ⟨{ g.s with stack := g.s.stack.take k }, g.o⟩) := by
      intro n
      have H2 := HM.out.drewN n
      refine ⟨_, _, H2.setSt (l := g.s.stack.take k) (grown_refl _ _) ?_ (fun j e _ => e) (by rw [hlen]; omega), hF, hL⟩
      have := (H2.st.cut (m := k) (by rw [HK.out]; omega) rfl).own
      rw [Nat.mul_one, ints_take] at this
      rw [hlen]
      exact this
    clear hlen
    go_region
    all_goals
      go_wp2_with fail
      go_ret
      exact ⟨ret_int (congrArg Prod.fst HP.out).symm, by rw [HP.out]; exact HE.out _⟩
  · have hl0 : g.s.stack.length = 0 := by omega
    have HP : Hid (Rg.pop g = (0, Rg.stop 6 g)) := if_neg hl
    obtain ⟨a, cap, hv, hcap, hmax⟩ := h.st.form
    simp only at hv
    subst hv
    have HM : Hid (GAt B R mt w0 w T ⟨.slice a g.s.stack.length cap, fr, da, iv, ou, lv, bx⟩ g) := h
    obtain ⟨-, c1, -, -, -, -, -, -, -, -, -⟩ := h.cell
    have hlt := h.ltR
    simp only [hl0] at c1
    clear h hl hl0 hcap
    go_enter Try.func26, Try.ntmps26
    go_wp2_with fail
    refine (HS.out _ ⟨T, _, HM.out, hF, hL⟩).mono ?_
    rintro e w1 ⟨rfl, H1⟩
    have H1 := hid H1
    go_wp2_with fail
    go_ret
    exact ⟨ret_int (congrArg Prod.fst HP.out).symm, by rw [HP.out]; exact H1.out⟩

end Go.Proofs.Ytljdoholcdhkhaa
