/-
  The instructions that go from the left to the right, and those that do one thing.
-/
import Derived.Test.YtpahhhhfhnpmjaaOpy
namespace Go.Proofs.Ytpahhhhfhnpmjaa
open Go.RowKit Go.Shelf
set_option maxRecDepth 100000

set_option maxHeartbeats 400000 in
theorem do1 (B R : Nat) (c : Mc.Cfg) (w0 : World) (s : Mc.St) (a b : Int) (w : World) (h : Mch B R c w0 w s) :
    Calls Try.prog 46 #[.pointer (some ⟨R, 0, none⟩), .agg #[.int .i64 1, .int .i64 a, .int .i64 b]] w (MEnd B R c w0 (Mc.doI c.mt ⟨1, a, b⟩ s) unitV) := by
  have HM : Hid (Mch B R c w0 w s) := h
  have HP : Hid (Mc.doI c.mt ⟨1, a, b⟩ s = Mc.push a s) := rfl
  clear h
  go_enter Try.func46, Try.ntmps46
  go_wp2_with fail
  refine (push_any B R c w0 s a _ (HM.out.alloc _)).mono ?_
  intro e w1 he
  rcases he.parts with ⟨u, s1, HR, rfl, Hm⟩ | ⟨s1, HR, rfl, Hm⟩ <;> clear he <;> simp only [unitV]
  · go_wp2_with fail
    go_returns
    exact MEnd.ok (HP.out.trans HR.out) rfl Hm.out
  · go_wp2_with fail
    exact ⟨rfl, MEnd.of_stop (HP.out.trans HR.out) Hm.out⟩

set_option maxHeartbeats 400000 in
theorem do6 (B R : Nat) (c : Mc.Cfg) (w0 : World) (s : Mc.St) (a b : Int) (w : World) (h : Mch B R c w0 w s) :
    Calls Try.prog 46 #[.pointer (some ⟨R, 0, none⟩), .agg #[.int .i64 6, .int .i64 a, .int .i64 b]] w (MEnd B R c w0 (Mc.doI c.mt ⟨6, a, b⟩ s) unitV) := by
  have HM : Hid (Mch B R c w0 w s) := h
  have HP : Hid (Mc.doI c.mt ⟨6, a, b⟩ s = Mc.index a b s) := rfl
  clear h
  go_enter Try.func46, Try.ntmps46
  go_wp2_with fail
  refine (index_any B R c w0 s a b _ (HM.out.alloc _)).mono ?_
  intro e w1 he
  rcases he.parts with ⟨u, s1, HR, rfl, Hm⟩ | ⟨s1, HR, rfl, Hm⟩ <;> clear he <;> simp only [unitV]
  · go_wp2_with fail
    go_returns
    exact MEnd.ok (HP.out.trans HR.out) rfl Hm.out
  · go_wp2_with fail
    exact ⟨rfl, MEnd.of_stop (HP.out.trans HR.out) Hm.out⟩

set_option maxHeartbeats 400000 in
theorem do10 (B R : Nat) (c : Mc.Cfg) (w0 : World) (s : Mc.St) (a b : Int) (w : World) (h : Mch B R c w0 w s) :
    Calls Try.prog 46 #[.pointer (some ⟨R, 0, none⟩), .agg #[.int .i64 10, .int .i64 a, .int .i64 b]] w (MEnd B R c w0 (Mc.doI c.mt ⟨10, a, b⟩ s) unitV) := by
  have HM : Hid (Mch B R c w0 w s) := h
  have HP : Hid (Mc.doI c.mt ⟨10, a, b⟩ s = Mc.math a s) := rfl
  clear h
  go_enter Try.func46, Try.ntmps46
  go_wp2_with fail
  refine (math_any B R c w0 s a _ (HM.out.alloc _)).mono ?_
  intro e w1 he
  rcases he.parts with ⟨u, s1, HR, rfl, Hm⟩ | ⟨s1, HR, rfl, Hm⟩ <;> clear he <;> simp only [unitV]
  · go_wp2_with fail
    go_returns
    exact MEnd.ok (HP.out.trans HR.out) rfl Hm.out
  · go_wp2_with fail
    exact ⟨rfl, MEnd.of_stop (HP.out.trans HR.out) Hm.out⟩

set_option maxHeartbeats 400000 in
theorem do13 (B R : Nat) (c : Mc.Cfg) (w0 : World) (s : Mc.St) (a b : Int) (w : World) (h : Mch B R c w0 w s) :
    Calls Try.prog 46 #[.pointer (some ⟨R, 0, none⟩), .agg #[.int .i64 13, .int .i64 a, .int .i64 b]] w (MEnd B R c w0 (Mc.doI c.mt ⟨13, a, b⟩ s) unitV) := by
  have HM : Hid (Mch B R c w0 w s) := h
  have HP : Hid (Mc.doI c.mt ⟨13, a, b⟩ s = Mc.call c.mt a s) := rfl
  clear h
  go_enter Try.func46, Try.ntmps46
  go_wp2_with fail
  refine (call_any B R c w0 s a _ (HM.out.alloc _)).mono ?_
  intro e w1 he
  rcases he.parts with ⟨u, s1, HR, rfl, Hm⟩ | ⟨s1, HR, rfl, Hm⟩ <;> clear he <;> simp only [unitV]
  · go_wp2_with fail
    go_returns
    exact MEnd.ok (HP.out.trans HR.out) rfl Hm.out
  · go_wp2_with fail
    exact ⟨rfl, MEnd.of_stop (HP.out.trans HR.out) Hm.out⟩

set_option maxHeartbeats 400000 in
theorem do14 (B R : Nat) (c : Mc.Cfg) (w0 : World) (s : Mc.St) (a b : Int) (w : World) (h : Mch B R c w0 w s) (ha : fit64 a) (hb : fit64 b) :
    Calls Try.prog 46 #[.pointer (some ⟨R, 0, none⟩), .agg #[.int .i64 14, .int .i64 a, .int .i64 b]] w (MEnd B R c w0 (Mc.doI c.mt ⟨14, a, b⟩ s) unitV) := by
  have HM : Hid (Mch B R c w0 w s) := h
  have HP : Hid (Mc.doI c.mt ⟨14, a, b⟩ s = Mc.enter a b s) := rfl
  clear h
  go_enter Try.func46, Try.ntmps46
  go_wp2_with fail
  refine (enter_any B R c w0 s a b _ (HM.out.alloc _) ha hb).mono ?_
  intro e w1 he
  rcases he.parts with ⟨u, s1, HR, rfl, Hm⟩ | ⟨s1, HR, rfl, Hm⟩ <;> clear he <;> simp only [unitV]
  · go_wp2_with fail
    go_returns
    exact MEnd.ok (HP.out.trans HR.out) rfl Hm.out
  · go_wp2_with fail
    exact ⟨rfl, MEnd.of_stop (HP.out.trans HR.out) Hm.out⟩

set_option maxHeartbeats 400000 in
theorem do15 (B R : Nat) (c : Mc.Cfg) (w0 : World) (s : Mc.St) (a b : Int) (w : World) (h : Mch B R c w0 w s) :
    Calls Try.prog 46 #[.pointer (some ⟨R, 0, none⟩), .agg #[.int .i64 15, .int .i64 a, .int .i64 b]] w (MEnd B R c w0 (Mc.doI c.mt ⟨15, a, b⟩ s) unitV) := by
  have HM : Hid (Mch B R c w0 w s) := h
  have HP : Hid (Mc.doI c.mt ⟨15, a, b⟩ s = Mc.ret s) := rfl
  clear h
  go_enter Try.func46, Try.ntmps46
  go_wp2_with fail
  refine (ret_any B R c w0 s _ (HM.out.alloc _)).mono ?_
  intro e w1 he
  rcases he.parts with ⟨u, s1, HR, rfl, Hm⟩ | ⟨s1, HR, rfl, Hm⟩ <;> clear he <;> simp only [unitV]
  · go_wp2_with fail
    go_returns
    exact MEnd.ok (HP.out.trans HR.out) rfl Hm.out
  · go_wp2_with fail
    exact ⟨rfl, MEnd.of_stop (HP.out.trans HR.out) Hm.out⟩

set_option maxHeartbeats 400000 in
theorem do16 (B R : Nat) (c : Mc.Cfg) (w0 : World) (s : Mc.St) (a b : Int) (w : World) (h : Mch B R c w0 w s) :
    Calls Try.prog 46 #[.pointer (some ⟨R, 0, none⟩), .agg #[.int .i64 16, .int .i64 a, .int .i64 b]] w (MEnd B R c w0 (Mc.doI c.mt ⟨16, a, b⟩ s) unitV) := by
  have HM : Hid (Mch B R c w0 w s) := h
  have HP : Hid (Mc.doI c.mt ⟨16, a, b⟩ s = Mc.tick c.mt s) := rfl
  clear h
  go_enter Try.func46, Try.ntmps46
  go_wp2_with fail
  refine (tick_any B R c w0 s _ (HM.out.alloc _)).mono ?_
  intro e w1 he
  rcases he.parts with ⟨u, s1, HR, rfl, Hm⟩ | ⟨s1, HR, rfl, Hm⟩ <;> clear he <;> simp only [unitV]
  · go_wp2_with fail
    go_returns
    exact MEnd.ok (HP.out.trans HR.out) rfl Hm.out
  · go_wp2_with fail
    exact ⟨rfl, MEnd.of_stop (HP.out.trans HR.out) Hm.out⟩

set_option maxHeartbeats 400000 in
theorem do9 (B R : Nat) (c : Mc.Cfg) (w0 : World) (s : Mc.St) (a b : Int) (w : World) (h : Mch B R c w0 w s) :
    Calls Try.prog 46 #[.pointer (some ⟨R, 0, none⟩), .agg #[.int .i64 9, .int .i64 a, .int .i64 b]] w (MEnd B R c w0 (Mc.doI c.mt ⟨9, a, b⟩ s) unitV) := by
  have HM : Hid (Mch B R c w0 w s) := h
  have HP : Hid (Mc.doI c.mt ⟨9, a, b⟩ s = (Mc.pop s).bind fun n s => Mc.push (Mc.truth (n == 0)) s) := rfl
  clear h
  go_enter Try.func46, Try.ntmps46
  go_wp2_with fail
  refine (pop_any B R c w0 s _ (HM.out.alloc _)).mono ?_
  intro e w1 he
  rcases he.parts with ⟨x, s1, HR, rfl, Hm⟩ | ⟨s1, HR, rfl, Hm⟩ <;> clear he <;> simp only [intV]
  · have HP1 := hid (HP.out.trans (bind_ok _ HR.out))
    clear HP HR
    go_wp2_with fail
    refine (truth_any _ _).mono ?_
    rintro e w' ⟨rfl, rfl⟩
    go_wp2_with fail
    refine (push_any B R c w0 s1 _ _ Hm.out).mono ?_
    intro e w2 he
    rcases he.parts with ⟨u, s2, HR, rfl, Hm2⟩ | ⟨s2, HR, rfl, Hm2⟩ <;> clear he <;> simp only [unitV]
    · go_wp2_with fail
      go_returns
      exact MEnd.ok (HP1.out.trans HR.out) rfl Hm2.out
    · go_wp2_with fail
      exact ⟨rfl, MEnd.of_stop (HP1.out.trans HR.out) Hm2.out⟩
  · go_wp2_with fail
    exact ⟨rfl, MEnd.of_stop (HP.out.trans (bind_stop _ HR.out)) Hm.out⟩

set_option maxHeartbeats 400000 in
theorem do22 (B R : Nat) (c : Mc.Cfg) (w0 : World) (s : Mc.St) (a b : Int) (w : World) (h : Mch B R c w0 w s) :
    Calls Try.prog 46 #[.pointer (some ⟨R, 0, none⟩), .agg #[.int .i64 22, .int .i64 a, .int .i64 b]] w (MEnd B R c w0 (Mc.doI c.mt ⟨22, a, b⟩ s) unitV) := by
  have HM : Hid (Mch B R c w0 w s) := h
  have HP : Hid (Mc.doI c.mt ⟨22, a, b⟩ s = (Mc.pop s).bind fun n s => Mc.push (Mc.truth (n != 0)) s) := rfl
  clear h
  go_enter Try.func46, Try.ntmps46
  go_wp2_with fail
  refine (pop_any B R c w0 s _ (HM.out.alloc _)).mono ?_
  intro e w1 he
  rcases he.parts with ⟨x, s1, HR, rfl, Hm⟩ | ⟨s1, HR, rfl, Hm⟩ <;> clear he <;> simp only [intV]
  · have HP1 := hid (HP.out.trans (bind_ok _ HR.out))
    clear HP HR
    go_wp2_with fail
    refine (truth_any _ _).mono ?_
    rintro e w' ⟨rfl, rfl⟩
    go_wp2_with fail
    refine (push_any B R c w0 s1 _ _ Hm.out).mono ?_
    intro e w2 he
    rcases he.parts with ⟨u, s2, HR, rfl, Hm2⟩ | ⟨s2, HR, rfl, Hm2⟩ <;> clear he <;> simp only [unitV]
    · go_wp2_with fail
      go_returns
      exact MEnd.ok (HP1.out.trans HR.out) rfl Hm2.out
    · go_wp2_with fail
      exact ⟨rfl, MEnd.of_stop (HP1.out.trans HR.out) Hm2.out⟩
  · go_wp2_with fail
    exact ⟨rfl, MEnd.of_stop (HP.out.trans (bind_stop _ HR.out)) Hm.out⟩

set_option maxHeartbeats 400000 in
theorem do18 (B R : Nat) (c : Mc.Cfg) (w0 : World) (s : Mc.St) (a b : Int) (w : World) (h : Mch B R c w0 w s) :
    Calls Try.prog 46 #[.pointer (some ⟨R, 0, none⟩), .agg #[.int .i64 18, .int .i64 a, .int .i64 b]] w (MEnd B R c w0 (Mc.doI c.mt ⟨18, a, b⟩ s) unitV) := by
  have HM : Hid (Mch B R c w0 w s) := h
  have HP : Hid (Mc.doI c.mt ⟨18, a, b⟩ s = (Mc.next s).bind Mc.push) := rfl
  clear h
  go_enter Try.func46, Try.ntmps46
  go_wp2_with fail
  refine (next_any B R c w0 s _ (HM.out.alloc _)).mono ?_
  intro e w1 he
  rcases he.parts with ⟨x, s1, HR, rfl, Hm⟩ | ⟨s1, HR, rfl, Hm⟩ <;> clear he <;> simp only [intV]
  · have HP1 := hid (HP.out.trans (bind_ok _ HR.out))
    clear HP HR
    go_wp2_with fail
    refine (push_any B R c w0 s1 _ _ Hm.out).mono ?_
    intro e w2 he
    rcases he.parts with ⟨u, s2, HR, rfl, Hm2⟩ | ⟨s2, HR, rfl, Hm2⟩ <;> clear he <;> simp only [unitV]
    · go_wp2_with fail
      go_returns
      exact MEnd.ok (HP1.out.trans HR.out) rfl Hm2.out
    · go_wp2_with fail
      exact ⟨rfl, MEnd.of_stop (HP1.out.trans HR.out) Hm2.out⟩
  · go_wp2_with fail
    exact ⟨rfl, MEnd.of_stop (HP.out.trans (bind_stop _ HR.out)) Hm.out⟩

set_option maxHeartbeats 400000 in
theorem do19 (B R : Nat) (c : Mc.Cfg) (w0 : World) (s : Mc.St) (a b : Int) (w : World) (h : Mch B R c w0 w s) :
    Calls Try.prog 46 #[.pointer (some ⟨R, 0, none⟩), .agg #[.int .i64 19, .int .i64 a, .int .i64 b]] w (MEnd B R c w0 (Mc.doI c.mt ⟨19, a, b⟩ s) unitV) := by
  have HM : Hid (Mch B R c w0 w s) := h
  have HP : Hid (Mc.doI c.mt ⟨19, a, b⟩ s = (Mc.pop s).bind Mc.tell) := rfl
  clear h
  go_enter Try.func46, Try.ntmps46
  go_wp2_with fail
  refine (pop_any B R c w0 s _ (HM.out.alloc _)).mono ?_
  intro e w1 he
  rcases he.parts with ⟨x, s1, HR, rfl, Hm⟩ | ⟨s1, HR, rfl, Hm⟩ <;> clear he <;> simp only [intV]
  · have HP1 := hid (HP.out.trans (bind_ok _ HR.out))
    clear HP HR
    go_wp2_with fail
    refine (tell_any B R c w0 s1 _ _ Hm.out).mono ?_
    intro e w2 he
    rcases he.parts with ⟨u, s2, HR, rfl, Hm2⟩ | ⟨s2, HR, rfl, Hm2⟩ <;> clear he <;> simp only [unitV]
    · go_wp2_with fail
      go_returns
      exact MEnd.ok (HP1.out.trans HR.out) rfl Hm2.out
    · go_wp2_with fail
      exact ⟨rfl, MEnd.of_stop (HP1.out.trans HR.out) Hm2.out⟩
  · go_wp2_with fail
    exact ⟨rfl, MEnd.of_stop (HP.out.trans (bind_stop _ HR.out)) Hm.out⟩

set_option maxHeartbeats 400000 in
theorem do17 (B R : Nat) (c : Mc.Cfg) (w0 : World) (s : Mc.St) (a b : Int) (w : World) (h : Mch B R c w0 w s) :
    Calls Try.prog 46 #[.pointer (some ⟨R, 0, none⟩), .agg #[.int .i64 17, .int .i64 a, .int .i64 b]] w (MEnd B R c w0 (Mc.doI c.mt ⟨17, a, b⟩ s) unitV) := by
  have HM : Hid (Mch B R c w0 w s) := h
  have HP : Hid (Mc.doI c.mt ⟨17, a, b⟩ s = (Mc.pop s).bind fun _ s => .ok () s) := rfl
  clear h
  go_enter Try.func46, Try.ntmps46
  go_wp2_with fail
  refine (pop_any B R c w0 s _ (HM.out.alloc _)).mono ?_
  intro e w1 he
  rcases he.parts with ⟨x, s1, HR, rfl, Hm⟩ | ⟨s1, HR, rfl, Hm⟩ <;> clear he <;> simp only [intV]
  · go_wp2_with fail
    go_returns
    exact MEnd.ok (HP.out.trans (bind_ok _ HR.out)) rfl Hm.out
  · go_wp2_with fail
    exact ⟨rfl, MEnd.of_stop (HP.out.trans (bind_stop _ HR.out)) Hm.out⟩

theorem Mch.pc {B R : Nat} {c : Mc.Cfg} {w0 w : World} {s : Mc.St} (h : Mch B R c w0 w s) (e : Int) : Mch B R c w0 (w.setCell ⟨R, 1, none⟩ (.int .i64 e)) { s with pc := e } := by
  obtain ⟨T, v, h⟩ := h
  exact ⟨T, v, h.setPc e⟩
theorem Mch.cell1 {B R : Nat} {c : Mc.Cfg} {w0 w : World} {s : Mc.St} (h : Mch B R c w0 w s) : w.cell? ⟨R, 1, none⟩ = some (.int .i64 s.pc) ∧ w.frozen? ⟨R, 1, none⟩ = false ∧ R < w.heap.size := by
  obtain ⟨T, v, h⟩ := h
  exact ⟨h.cell.2.1, h.cell.2.2.2.2.2.2.2.2.2.2.2.2.2 1, h.ltR⟩

set_option maxHeartbeats 400000 in
theorem do11 (B R : Nat) (c : Mc.Cfg) (w0 : World) (s : Mc.St) (a b : Int) (w : World) (h : Mch B R c w0 w s) :
    Calls Try.prog 46 #[.pointer (some ⟨R, 0, none⟩), .agg #[.int .i64 11, .int .i64 a, .int .i64 b]] w (MEnd B R c w0 (Mc.doI c.mt ⟨11, a, b⟩ s) unitV) := by
  have HM : Hid (Mch B R c w0 w s) := h
  have HP : Hid (Mc.doI c.mt ⟨11, a, b⟩ s = .ok () { s with pc := a }) := rfl
  obtain ⟨c1, f1, hl⟩ := h.cell1
  clear h
  go_enter Try.func46, Try.ntmps46
  go_wp2_with fail
  go_returns
  exact MEnd.ok HP.out rfl ((HM.out.pc a).alloc _)

set_option maxHeartbeats 400000 in
theorem do12 (B R : Nat) (c : Mc.Cfg) (w0 : World) (s : Mc.St) (a b : Int) (w : World) (h : Mch B R c w0 w s) :
    Calls Try.prog 46 #[.pointer (some ⟨R, 0, none⟩), .agg #[.int .i64 12, .int .i64 a, .int .i64 b]] w (MEnd B R c w0 (Mc.doI c.mt ⟨12, a, b⟩ s) unitV) := by
  have HM : Hid (Mch B R c w0 w s) := h
  have HP : Hid (Mc.doI c.mt ⟨12, a, b⟩ s = (Mc.pop s).bind fun n s => .ok () (if n = 0 then { s with pc := a } else s)) := rfl
  have hRl := h.get.2.2
  clear h
  obtain ⟨T, v, h⟩ := HM.out
  have HA := hid h
  clear h
  go_enter Try.func46, Try.ntmps46
  go_wp2_with fail
  refine (pop_keep B R c w0 s _ T v (HA.out.alloc _)).mono ?_
  rintro e w1 ⟨he, hk⟩
  have d1 : w1.cell? ⟨w.heap.size, 1, none⟩ = some (.int .i64 a) := ((World.cell?_of_block (w := w.alloc _) (hk w.heap.size (by omega))).trans (by simp))
  rcases he.plain.parts with ⟨x, s1, HR, rfl, Hm⟩ | ⟨s1, HR, rfl, Hm⟩ <;> clear he hk <;> simp only [intV]
  · have HP1 := hid (HP.out.trans (bind_ok _ HR.out))
    clear HP HR
    obtain ⟨c1, f1, hl⟩ := Hm.out.cell1
    by_cases hx : x = 0
    · have HP2 : Hid (Mc.doI c.mt ⟨12, a, b⟩ s = .ok () { s1 with pc := a }) := by
        have := HP1.out
        rw [if_pos hx] at this
        exact this
      subst hx
      clear HP1
      go_wp2_with fail
      go_returns
      exact MEnd.ok HP2.out rfl (Hm.out.pc a)
    · have HP2 : Hid (Mc.doI c.mt ⟨12, a, b⟩ s = .ok () s1) := by
        have := HP1.out
        rw [if_neg hx] at this
        exact this
      have hx' : (x == 0) = false := beq_eq_false_iff_ne.2 hx
      clear HP1 hx
      go_wp2_with fail
      go_returns
      exact MEnd.ok HP2.out rfl Hm.out
  · go_wp2_with fail
    exact ⟨rfl, MEnd.of_stop (HP.out.trans (bind_stop _ HR.out)) Hm.out⟩

set_option maxHeartbeats 400000 in
theorem do20 (B R : Nat) (c : Mc.Cfg) (w0 : World) (s : Mc.St) (a b : Int) (w : World) (h : Mch B R c w0 w s) :
    Calls Try.prog 46 #[.pointer (some ⟨R, 0, none⟩), .agg #[.int .i64 20, .int .i64 a, .int .i64 b]] w (MEnd B R c w0 (Mc.doI c.mt ⟨20, a, b⟩ s) unitV) := by
  have HM : Hid (Mch B R c w0 w s) := h
  have HP : Hid (Mc.doI c.mt ⟨20, a, b⟩ s = .stop { s with en := 0 }) := rfl
  clear h
  go_enter Try.func46, Try.ntmps46
  go_wp2_with fail
  refine (halt_any 0 _ (HM.out.alloc _)).mono ?_
  rintro e w2 ⟨rfl, hm⟩
  go_wp2_with fail
  exact ⟨rfl, MEnd.stop HP.out rfl hm⟩

set_option maxHeartbeats 400000 in
theorem do21 (B R : Nat) (c : Mc.Cfg) (w0 : World) (s : Mc.St) (a b : Int) (w : World) (h : Mch B R c w0 w s) :
    Calls Try.prog 46 #[.pointer (some ⟨R, 0, none⟩), .agg #[.int .i64 21, .int .i64 a, .int .i64 b]] w (MEnd B R c w0 (Mc.doI c.mt ⟨21, a, b⟩ s) unitV) := by
  have HM : Hid (Mch B R c w0 w s) := h
  have HP : Hid (Mc.doI c.mt ⟨21, a, b⟩ s = .ok () s) := rfl
  clear h
  go_enter Try.func46, Try.ntmps46
  go_wp2_with fail
  go_returns
  exact MEnd.ok HP.out rfl (HM.out.alloc _)

end Go.Proofs.Ytpahhhhfhnpmjaa
