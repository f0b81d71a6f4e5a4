/-
  The instructions whose order of evaluation is drawn: those that read or write locals and data.
-/
import Derived.Test.YtpahhhhfhnpmjaaOpw
namespace Go.Proofs.Ytpahhhhfhnpmjaa
open Go.RowKit Go.Shelf
set_option maxRecDepth 100000

set_option maxHeartbeats 800000 in
theorem do2 (B R : Nat) (c : Mc.Cfg) (w0 : World) (s : Mc.St) (a b : Int) (w : World) (h : Mch B R c w0 w s) :
    Calls Try.prog 46 #[.pointer (some ⟨R, 0, none⟩), .agg #[.int .i64 2, .int .i64 a, .int .i64 b]] w (MEnd B R c w0 (Mc.doI c.mt ⟨2, a, b⟩ s) unitV) := by
  have HM : Hid (Mch B R c w0 w s) := h
  have HP : Hid (Mc.doI c.mt ⟨2, a, b⟩ s = (Mc.getL s.lo a s).bind Mc.push) := rfl
  clear h
  obtain ⟨T, v, h⟩ := HM.out
  have HA := hid h
  have hRl := h.ltR
  have hlo := h.blo
  clear h
  go_enter Try.func46, Try.ntmps46
  go_wp2_with fail
  go_region_law (first
    | (refine step_callE (by rfl) 49 _ _ (by rfl) en37 _ (by kernel_rfl) (own_any B R c w0 s _ T v (HA.out.alloc _).drew) (fun w' h => by obtain ⟨_, _, h, _⟩ := h; cases h) (fun ch w' h => by obtain ⟨_, _, h, _⟩ := h; cases h) ?_; rintro _ w1 ⟨la, lc, h1, hO, hM1, hb⟩; obtain rfl := (Ending.returned.inj h1); have HO := hid hO; have HM1 := hid hM1; have d1 : w1.cell? ⟨w.heap.size, 1, none⟩ = some (.int .i64 a) := ((hb.cell (p := ⟨w.heap.size, 1, none⟩) (by simp)).trans (by simp)); clear h1 hO hM1)
    | (refine step_callE (by rfl) 48 _ _ (by rfl) en36 _ (by kernel_rfl) (get_any B R c w0 s la lc s.lo a _ ⟨T, v, HM1.out⟩ (HO.out.cells HM1.out).1 (by omega)) (fun w' h => h.noOut) (fun ch w' h => by obtain ⟨s2, HR, rfl, Hm⟩ := h.pan; exact ⟨rfl, MEnd.of_stop (HP.out.trans (bind_stop _ HR.out)) Hm.out⟩) ?_; intro _ w2 he; obtain ⟨x, s2, HR2, rfl, Hm2⟩ := he.ret; clear he; simp only [intV])
    | (refine step_callE (by rfl) 47 _ _ (by rfl) en35 _ (by kernel_rfl) (push_any B R c w0 s2 x _ Hm2.out) (fun w' h => h.noOut) (fun ch w' h => by obtain ⟨s3, HR, rfl, Hm⟩ := h.pan; exact ⟨rfl, MEnd.of_stop (HP.out.trans ((bind_ok _ HR2.out).trans HR.out)) Hm.out⟩) ?_; intro _ w3 he; obtain ⟨u, s3, HR3, rfl, Hm3⟩ := he.ret; clear he; simp only [unitV]))
  all_goals
    go_wp2_with fail
    go_returns
    exact MEnd.ok (HP.out.trans ((bind_ok _ HR2.out).trans HR3.out)) rfl Hm3.out

theorem pop_form {s s2 : Mc.St} {x : Int} (h : Mc.pop s = .ok x s2) : ∃ l, s2 = { s with stack := l } := by
  unfold Mc.pop at h
  split at h
  · exact ⟨_, (Mc.Res.ok.inj h).2.symm⟩
  · cases h
theorem MEndL.noOut {α : Type} {B R : Nat} {c : Mc.Cfg} {w0 w' : World} {L D : Value} {r : Mc.Res α} {rep : α → Value} : ¬ MEndL B R c w0 L D r rep .outgrown w' := by
  intro h; cases r with
  | ok a s => cases h.1
  | stop s => cases h.1
theorem MEndL.ret {α : Type} {B R : Nat} {c : Mc.Cfg} {w0 w' : World} {L D : Value} {r : Mc.Res α} {rep : α → Value} {v : Value} (h : MEndL B R c w0 L D r rep (.returned v) w') : ∃ a s, Hid (r = .ok a s) ∧ v = rep a ∧ ∃ T v', Hid (MAt B R c w0 w' T v' s) ∧ v'.lo = L ∧ v'.da = D := by
  cases r with
  | ok a s => exact ⟨a, s, rfl, by cases h.1; rfl, h.2⟩
  | stop s => cases h.1
theorem MEndL.pan {α : Type} {B R : Nat} {c : Mc.Cfg} {w0 w' : World} {L D : Value} {r : Mc.Res α} {rep : α → Value} {ch : List PanicEntry} (h : MEndL B R c w0 L D r rep (.panicked ch) w') : ∃ s, Hid (r = .stop s) ∧ ch = thrown s.en ∧ Hid (Mch B R c w0 w' s) := by
  cases r with
  | ok a s => cases h.1
  | stop s => exact ⟨s, rfl, by cases h.1; rfl, h.2⟩

set_option maxHeartbeats 800000 in
theorem do3 (B R : Nat) (c : Mc.Cfg) (w0 : World) (s : Mc.St) (a b : Int) (w : World) (h : Mch B R c w0 w s) :
    Calls Try.prog 46 #[.pointer (some ⟨R, 0, none⟩), .agg #[.int .i64 3, .int .i64 a, .int .i64 b]] w (MEnd B R c w0 (Mc.doI c.mt ⟨3, a, b⟩ s) unitV) := by
  have HM : Hid (Mch B R c w0 w s) := h
  have HP : Hid (Mc.doI c.mt ⟨3, a, b⟩ s = (Mc.pop s).bind fun n s => Mc.putLo a n s) := rfl
  clear h
  obtain ⟨T, v, h⟩ := HM.out
  have HA := hid h
  have hRl := h.ltR
  clear h
  go_enter Try.func46, Try.ntmps46
  go_wp2_with fail
  go_region_law (first
    | (refine step_callE (by rfl) 49 _ _ (by rfl) en37 _ (by kernel_rfl) (own_any B R c w0 s _ T v (HA.out.alloc _).drew) (fun w' h => by obtain ⟨_, _, h, _⟩ := h; cases h) (fun ch w' h => by obtain ⟨_, _, h, _⟩ := h; cases h) ?_; rintro _ w1 ⟨la, lc, h1, hO, hM1, hb⟩; obtain rfl := (Ending.returned.inj h1); have HO := hid hO; have HM1 := hid hM1; have d1 : w1.cell? ⟨w.heap.size, 1, none⟩ = some (.int .i64 a) := ((hb.cell (p := ⟨w.heap.size, 1, none⟩) (by simp)).trans (by simp)); clear h1 hO hM1)
    | (refine step_callE (by rfl) 51 _ _ (by rfl) en39 _ (by kernel_rfl) (pop_keep B R c w0 s _ T v HM1.out) (fun w' h => h.1.noOut) (fun ch w' h => by obtain ⟨s2, HR, rfl, Hm⟩ := h.1.pan; exact ⟨rfl, MEnd.of_stop (HP.out.trans (bind_stop _ HR.out)) Hm.out⟩) ?_; rintro _ w2 ⟨he, hk⟩; obtain ⟨x, s2, HR2, rfl, T2, v2, HM2, hlo, hda⟩ := he.ret; obtain ⟨l2, hs2⟩ := pop_form HR2.out; subst hs2; have HL := hid hlo; have d2 : w2.cell? ⟨w.heap.size, 1, none⟩ = some (.int .i64 a) := ((World.cell?_of_block (w := w1) (hk w.heap.size (by omega))).trans d1); clear he hk hlo hda; simp only [intV])
    | (refine step_callE (by rfl) 50 _ _ (by rfl) en38 _ (by kernel_rfl) (putLo_any B R c w0 { s with stack := l2 } a x la lc _ T2 v2 HM2.out (by rcases HO.out with h | ⟨g, cap, h1, h2⟩; exact Or.inl h; exact Or.inr ⟨g, cap, HL.out.trans h1, h2⟩)) (fun w' h => h.noOut) (fun ch w' h => by obtain ⟨s3, HR, rfl, Hm⟩ := h.pan; exact ⟨rfl, MEnd.of_stop (HP.out.trans ((bind_ok _ HR2.out).trans HR.out)) Hm.out⟩) ?_; intro _ w3 he; obtain ⟨u, s3, HR3, rfl, Hm3⟩ := he.ret; clear he; simp only [unitV]))
  all_goals
    go_wp2_with fail
    go_returns
    exact MEnd.ok (HP.out.trans ((bind_ok _ HR2.out).trans HR3.out)) rfl Hm3.out

set_option maxHeartbeats 800000 in
theorem do4 (B R : Nat) (c : Mc.Cfg) (w0 : World) (s : Mc.St) (a b : Int) (w : World) (h : Mch B R c w0 w s) :
    Calls Try.prog 46 #[.pointer (some ⟨R, 0, none⟩), .agg #[.int .i64 4, .int .i64 a, .int .i64 b]] w (MEnd B R c w0 (Mc.doI c.mt ⟨4, a, b⟩ s) unitV) := by
  have HM : Hid (Mch B R c w0 w s) := h
  have HP : Hid (Mc.doI c.mt ⟨4, a, b⟩ s = (Mc.getL s.data a s).bind Mc.push) := rfl
  clear h
  obtain ⟨T, v, h⟩ := HM.out
  obtain ⟨da, dc, hv, -⟩ := h.dataAt
  have HC : Hid (∀ w1, MAt B R c w0 w1 T v s → Cells w1 da s.data) := fun w1 h1 => by
    obtain ⟨da', dc', hv', hC, _⟩ := h1.dataAt
    rw [hv, Value.slice.injEq] at hv'
    rw [hv'.1]; exact hC
  have c5 : w.cell? ⟨R, 5, none⟩ = some (.slice da s.data.length dc) := by rw [← hv]; exact h.cell.2.2.2.2.2.1
  have HA := hid h
  have hRl := h.ltR
  have hbd := h.bda
  clear h hv
  go_enter Try.func46, Try.ntmps46
  go_wp2_with fail
  go_region_law (first
    | (refine step_callE (by rfl) 48 _ _ (by rfl) en36 _ (by kernel_rfl) (get_any B R c w0 s da dc s.data a _ ⟨T, v, (HA.out.alloc _).drew⟩ (HC.out _ (HA.out.alloc _).drew) (by omega)) (fun w' h => h.noOut) (fun ch w' h => by obtain ⟨s2, HR, rfl, Hm⟩ := h.pan; exact ⟨rfl, MEnd.of_stop (HP.out.trans (bind_stop _ HR.out)) Hm.out⟩) ?_; intro _ w2 he; obtain ⟨x, s2, HR2, rfl, Hm2⟩ := he.ret; clear he; simp only [intV])
    | (refine step_callE (by rfl) 47 _ _ (by rfl) en35 _ (by kernel_rfl) (push_any B R c w0 s2 x _ Hm2.out) (fun w' h => h.noOut) (fun ch w' h => by obtain ⟨s3, HR, rfl, Hm⟩ := h.pan; exact ⟨rfl, MEnd.of_stop (HP.out.trans ((bind_ok _ HR2.out).trans HR.out)) Hm.out⟩) ?_; intro _ w3 he; obtain ⟨u, s3, HR3, rfl, Hm3⟩ := he.ret; clear he; simp only [unitV]))
  all_goals
    go_wp2_with fail
    go_returns
    exact MEnd.ok (HP.out.trans ((bind_ok _ HR2.out).trans HR3.out)) rfl Hm3.out

set_option maxHeartbeats 1600000 in
theorem do5 (B R : Nat) (c : Mc.Cfg) (w0 : World) (s : Mc.St) (a b : Int) (w : World) (h : Mch B R c w0 w s) :
    Calls Try.prog 46 #[.pointer (some ⟨R, 0, none⟩), .agg #[.int .i64 5, .int .i64 a, .int .i64 b]] w (MEnd B R c w0 (Mc.doI c.mt ⟨5, a, b⟩ s) unitV) := by
  have HM : Hid (Mch B R c w0 w s) := h
  have HP : Hid (Mc.doI c.mt ⟨5, a, b⟩ s = (Mc.pop s).bind fun n s => Mc.putDa a n s) := rfl
  clear h
  obtain ⟨T, v, h⟩ := HM.out
  obtain ⟨da, dc, hv, -⟩ := h.dataAt
  have HV := hid hv
  have c5 : w.cell? ⟨R, 5, none⟩ = some (.slice da s.data.length dc) := by rw [← hv]; exact h.cell.2.2.2.2.2.1
  have HPut : Hid (∀ (x : Int) (l : List Int) (w2 : World) (T2 : Nat → Nat) (v2 : Vs), MAt B R c w0 w2 T2 v2 { s with stack := l } → v2.da = v.da → Calls Try.prog 50 #[.pointer (some ⟨R, 0, none⟩), .slice da s.data.length dc, .int .i64 a, .int .i64 x] w2 (MEnd B R c w0 (Mc.putDa a x { s with stack := l }) unitV)) := fun x l w2 T2 v2 h2 e => by
    have := putDa_any B R c w0 { s with stack := l } a x w2 T2 v2 h2
    rw [e, hv] at this
    exact this
  have HA := hid h
  have hRl := h.ltR
  clear h hv
  go_enter Try.func46, Try.ntmps46
  go_wp2_with fail
  go_region_law (first
    | (refine step_callE (by rfl) 51 _ _ (by rfl) en39 _ (by kernel_rfl) (pop_keep B R c w0 s _ T v (HA.out.alloc _).drew) (fun w' h => h.1.noOut) (fun ch w' h => by obtain ⟨s2, HR, rfl, Hm⟩ := h.1.pan; exact ⟨rfl, MEnd.of_stop (HP.out.trans (bind_stop _ HR.out)) Hm.out⟩) ?_; rintro _ w2 ⟨he, hk⟩; obtain ⟨x, s2, HR2, rfl, T2, v2, HM2, hlo, hda⟩ := he.ret; obtain ⟨l2, hs2⟩ := pop_form HR2.out; subst hs2; have HD := hid hda; have d5 : w2.cell? ⟨R, 5, none⟩ = some (.slice da s.data.length dc) := (by rw [← HV.out, ← hda]; exact HM2.out.cell.2.2.2.2.2.1); have d2 : w2.cell? ⟨w.heap.size, 1, none⟩ = some (.int .i64 a) := ((World.cell?_of_block (w := (w.alloc _).drew) (hk w.heap.size (by omega))).trans (by simp)); clear he hk hlo hda; simp only [intV])
    | (refine step_callE (by rfl) 50 _ _ (by rfl) en38 _ (by kernel_rfl) (HPut.out x l2 _ T2 v2 HM2.out HD.out) (fun w' h => h.noOut) (fun ch w' h => by obtain ⟨s3, HR, rfl, Hm⟩ := h.pan; exact ⟨rfl, MEnd.of_stop (HP.out.trans ((bind_ok _ HR2.out).trans HR.out)) Hm.out⟩) ?_; intro _ w3 he; obtain ⟨u, s3, HR3, rfl, Hm3⟩ := he.ret; clear he; simp only [unitV]))
  all_goals
    go_wp2_with fail
    go_returns
    exact MEnd.ok (HP.out.trans ((bind_ok _ HR2.out).trans HR3.out)) rfl Hm3.out

end Go.Proofs.Ytpahhhhfhnpmjaa

namespace Go.Proofs.Ytpahhhhfhnpmjaa
open Go.RowKit Go.Shelf
set_option maxRecDepth 100000

set_option maxHeartbeats 1600000 in
theorem do7 (B R : Nat) (c : Mc.Cfg) (w0 : World) (s : Mc.St) (a b : Int) (w : World) (h : Mch B R c w0 w s) :
    Calls Try.prog 46 #[.pointer (some ⟨R, 0, none⟩), .agg #[.int .i64 7, .int .i64 a, .int .i64 b]] w (MEnd B R c w0 (Mc.doI c.mt ⟨7, a, b⟩ s) unitV) := by
  have HM : Hid (Mch B R c w0 w s) := h
  have HP : Hid (Mc.doI c.mt ⟨7, a, b⟩ s = (Mc.pop s).bind fun a s => (Mc.getL s.data a s).bind Mc.push) := rfl
  clear h
  obtain ⟨T, v, h⟩ := HM.out
  obtain ⟨da, dc, hv, -⟩ := h.dataAt
  have HV := hid hv
  have c5 : w.cell? ⟨R, 5, none⟩ = some (.slice da s.data.length dc) := by rw [← hv]; exact h.cell.2.2.2.2.2.1
  have hbd := h.bda
  have HGet : Hid (∀ (x : Int) (l : List Int) (w2 : World) (T2 : Nat → Nat) (v2 : Vs), MAt B R c w0 w2 T2 v2 { s with stack := l } → v2.da = v.da → Calls Try.prog 48 #[.pointer (some ⟨R, 0, none⟩), .slice da s.data.length dc, .int .i64 x] w2 (MEnd B R c w0 (Mc.getL s.data x { s with stack := l }) intV)) := fun x l w2 T2 v2 h2 e => by
    refine get_any B R c w0 { s with stack := l } da dc s.data x w2 ⟨T2, v2, h2⟩ ?_ (by omega)
    obtain ⟨da', dc', hv', hC, _⟩ := h2.dataAt
    rw [e, hv, Value.slice.injEq] at hv'
    rw [hv'.1]; exact hC
  have HA := hid h
  have hRl := h.ltR
  clear h hv
  go_enter Try.func46, Try.ntmps46
  go_wp2_with fail
  go_region_law (first
    | (refine step_callE (by rfl) 51 _ _ (by rfl) en39 _ (by kernel_rfl) (pop_keep B R c w0 s _ T v (HA.out.alloc _).drew) (fun w' h => h.1.noOut) (fun ch w' h => by obtain ⟨s2, HR, rfl, Hm⟩ := h.1.pan; exact ⟨rfl, MEnd.of_stop (HP.out.trans (bind_stop _ HR.out)) Hm.out⟩) ?_; rintro _ w2 ⟨he, hk⟩; obtain ⟨x, s2, HR2, rfl, T2, v2, HM2, hlo, hda⟩ := he.ret; obtain ⟨l2, hs2⟩ := pop_form HR2.out; subst hs2; have HD := hid hda; have d5 : w2.cell? ⟨R, 5, none⟩ = some (.slice da s.data.length dc) := (by rw [← HV.out, ← hda]; exact HM2.out.cell.2.2.2.2.2.1); clear he hk hlo hda; simp only [intV])
    | (refine step_callE (by rfl) 48 _ _ (by rfl) en36 _ (by kernel_rfl) (HGet.out x l2 _ T2 v2 HM2.out HD.out) (fun w' h => h.noOut) (fun ch w' h => by obtain ⟨s3, HR, rfl, Hm⟩ := h.pan; exact ⟨rfl, MEnd.of_stop (HP.out.trans ((bind_ok _ HR2.out).trans (bind_stop _ HR.out))) Hm.out⟩) ?_; intro _ w3 he; obtain ⟨y, s3, HR3, rfl, Hm3⟩ := he.ret; clear he; simp only [intV])
    | (refine step_callE (by rfl) 47 _ _ (by rfl) en35 _ (by kernel_rfl) (push_any B R c w0 s3 y _ Hm3.out) (fun w' h => h.noOut) (fun ch w' h => by obtain ⟨s4, HR, rfl, Hm⟩ := h.pan; exact ⟨rfl, MEnd.of_stop (HP.out.trans ((bind_ok _ HR2.out).trans ((bind_ok _ HR3.out).trans HR.out))) Hm.out⟩) ?_; intro _ w4 he; obtain ⟨u, s4, HR4, rfl, Hm4⟩ := he.ret; clear he; simp only [unitV]))
  all_goals
    go_wp2_with fail
    go_returns
    exact MEnd.ok (HP.out.trans ((bind_ok _ HR2.out).trans ((bind_ok _ HR3.out).trans HR4.out))) rfl Hm4.out

set_option maxHeartbeats 1600000 in
theorem do8 (B R : Nat) (c : Mc.Cfg) (w0 : World) (s : Mc.St) (a b : Int) (w : World) (h : Mch B R c w0 w s) :
    Calls Try.prog 46 #[.pointer (some ⟨R, 0, none⟩), .agg #[.int .i64 8, .int .i64 a, .int .i64 b]] w (MEnd B R c w0 (Mc.doI c.mt ⟨8, a, b⟩ s) unitV) := by
  have HM : Hid (Mch B R c w0 w s) := h
  have HP : Hid (Mc.doI c.mt ⟨8, a, b⟩ s = (Mc.pop s).bind fun n s => (Mc.pop s).bind fun a s => Mc.putDa a n s) := rfl
  clear h
  go_enter Try.func46, Try.ntmps46
  go_wp2_with fail
  refine (pop_any B R c w0 s _ (HM.out.alloc _)).mono ?_
  intro e w1 he
  rcases he.parts with ⟨n, s1, HR, rfl, Hm⟩ | ⟨s1, HR, rfl, Hm⟩ <;> clear he <;> simp only [intV]
  · have HP1 := hid (HP.out.trans (bind_ok _ HR.out))
    clear HP HR HM
    obtain ⟨T, v, h⟩ := Hm.out
    obtain ⟨da, dc, hv, -⟩ := h.dataAt
    have HV := hid hv
    have c5 : w1.cell? ⟨R, 5, none⟩ = some (.slice da s1.data.length dc) := by rw [← hv]; exact h.cell.2.2.2.2.2.1
    have HPut : Hid (∀ (x : Int) (l : List Int) (w2 : World) (T2 : Nat → Nat) (v2 : Vs), MAt B R c w0 w2 T2 v2 { s1 with stack := l } → v2.da = v.da → Calls Try.prog 50 #[.pointer (some ⟨R, 0, none⟩), .slice da s1.data.length dc, .int .i64 x, .int .i64 n] w2 (MEnd B R c w0 (Mc.putDa x n { s1 with stack := l }) unitV)) := fun x l w2 T2 v2 h2 e => by
      have := putDa_any B R c w0 { s1 with stack := l } x n w2 T2 v2 h2
      rw [e, hv] at this
      exact this
    have HA := hid h
    have hRl := h.ltR
    clear h hv
    go_wp2_with fail
    go_region_law (first
      | (refine step_callE (by rfl) 51 _ _ (by rfl) en39 _ (by kernel_rfl) (pop_keep B R c w0 s1 _ T v HA.out.drew) (fun w' h => h.1.noOut) (fun ch w' h => by obtain ⟨s2, HR, rfl, Hm⟩ := h.1.pan; exact ⟨rfl, MEnd.of_stop (HP1.out.trans (bind_stop _ HR.out)) Hm.out⟩) ?_; rintro _ w2 ⟨he, hk⟩; obtain ⟨x, s2, HR2, rfl, T2, v2, HM2, hlo, hda⟩ := he.ret; obtain ⟨l2, hs2⟩ := pop_form HR2.out; subst hs2; have HD := hid hda; have d5 : w2.cell? ⟨R, 5, none⟩ = some (.slice da s1.data.length dc) := (by rw [← HV.out, ← hda]; exact HM2.out.cell.2.2.2.2.2.1); clear he hk hlo hda; simp only [intV])
      | (refine step_callE (by rfl) 50 _ _ (by rfl) en38 _ (by kernel_rfl) (HPut.out x l2 _ T2 v2 HM2.out HD.out) (fun w' h => h.noOut) (fun ch w' h => by obtain ⟨s3, HR, rfl, Hm⟩ := h.pan; exact ⟨rfl, MEnd.of_stop (HP1.out.trans ((bind_ok _ HR2.out).trans HR.out)) Hm.out⟩) ?_; intro _ w3 he; obtain ⟨u, s3, HR3, rfl, Hm3⟩ := he.ret; clear he; simp only [unitV]))
    all_goals
      go_wp2_with fail
      go_returns
      exact MEnd.ok (HP1.out.trans ((bind_ok _ HR2.out).trans HR3.out)) rfl Hm3.out
  · go_wp2_with fail
    exact ⟨rfl, MEnd.of_stop (HP.out.trans (bind_stop _ HR.out)) Hm.out⟩

end Go.Proofs.Ytpahhhhfhnpmjaa

namespace Go.Proofs.Ytpahhhhfhnpmjaa
open Go.RowKit Go.Shelf
set_option maxRecDepth 100000

set_option maxHeartbeats 400000 in
theorem do1 (B R : Nat) (c : Mc.Cfg) (w0 : World) (s : Mc.St) (a b : Int) (w : World) (h : Mch B R c w0 w s) :
    Calls Try.prog 46 #[.pointer (some ⟨R, 0, none⟩), .agg #[.int .i64 1, .int .i64 a, .int .i64 b]] w (MEnd B R c w0 (Mc.doI c.mt ⟨1, a, b⟩ s) unitV) := by
  have HM : Hid (Mch B R c w0 w s) := h
  have HP : Hid (Mc.doI c.mt ⟨1, a, b⟩ s = Mc.push a s) := rfl
  clear h
  go_enter Try.func46, Try.ntmps46
  go_wp2_with fail
  refine (push_any B R c w0 s a _ (HM.out.alloc _)).mono ?_
  intro e w1 he
  rcases he.parts with ⟨u, s1, HR, rfl, Hm⟩ | ⟨s1, HR, rfl, Hm⟩ <;> clear he <;> simp only [unitV]
  · go_wp2_with fail
    go_returns
    exact MEnd.ok (HP.out.trans HR.out) rfl Hm.out
  · go_wp2_with fail
    exact ⟨rfl, MEnd.of_stop (HP.out.trans HR.out) Hm.out⟩

set_option maxHeartbeats 400000 in
theorem do6 (B R : Nat) (c : Mc.Cfg) (w0 : World) (s : Mc.St) (a b : Int) (w : World) (h : Mch B R c w0 w s) :
    Calls Try.prog 46 #[.pointer (some ⟨R, 0, none⟩), .agg #[.int .i64 6, .int .i64 a, .int .i64 b]] w (MEnd B R c w0 (Mc.doI c.mt ⟨6, a, b⟩ s) unitV) := by
  have HM : Hid (Mch B R c w0 w s) := h
  have HP : Hid (Mc.doI c.mt ⟨6, a, b⟩ s = Mc.index a b s) := rfl
  clear h
  go_enter Try.func46, Try.ntmps46
  go_wp2_with fail
  refine (index_any B R c w0 s a b _ (HM.out.alloc _)).mono ?_
  intro e w1 he
  rcases he.parts with ⟨u, s1, HR, rfl, Hm⟩ | ⟨s1, HR, rfl, Hm⟩ <;> clear he <;> simp only [unitV]
  · go_wp2_with fail
    go_returns
    exact MEnd.ok (HP.out.trans HR.out) rfl Hm.out
  · go_wp2_with fail
    exact ⟨rfl, MEnd.of_stop (HP.out.trans HR.out) Hm.out⟩

set_option maxHeartbeats 400000 in
theorem do10 (B R : Nat) (c : Mc.Cfg) (w0 : World) (s : Mc.St) (a b : Int) (w : World) (h : Mch B R c w0 w s) :
    Calls Try.prog 46 #[.pointer (some ⟨R, 0, none⟩), .agg #[.int .i64 10, .int .i64 a, .int .i64 b]] w (MEnd B R c w0 (Mc.doI c.mt ⟨10, a, b⟩ s) unitV) := by
  have HM : Hid (Mch B R c w0 w s) := h
  have HP : Hid (Mc.doI c.mt ⟨10, a, b⟩ s = Mc.math a s) := rfl
  clear h
  go_enter Try.func46, Try.ntmps46
  go_wp2_with fail
  refine (math_any B R c w0 s a _ (HM.out.alloc _)).mono ?_
  intro e w1 he
  rcases he.parts with ⟨u, s1, HR, rfl, Hm⟩ | ⟨s1, HR, rfl, Hm⟩ <;> clear he <;> simp only [unitV]
  · go_wp2_with fail
    go_returns
    exact MEnd.ok (HP.out.trans HR.out) rfl Hm.out
  · go_wp2_with fail
    exact ⟨rfl, MEnd.of_stop (HP.out.trans HR.out) Hm.out⟩

set_option maxHeartbeats 400000 in
theorem do13 (B R : Nat) (c : Mc.Cfg) (w0 : World) (s : Mc.St) (a b : Int) (w : World) (h : Mch B R c w0 w s) :
    Calls Try.prog 46 #[.pointer (some ⟨R, 0, none⟩), .agg #[.int .i64 13, .int .i64 a, .int .i64 b]] w (MEnd B R c w0 (Mc.doI c.mt ⟨13, a, b⟩ s) unitV) := by
  have HM : Hid (Mch B R c w0 w s) := h
  have HP : Hid (Mc.doI c.mt ⟨13, a, b⟩ s = Mc.call c.mt a s) := rfl
  clear h
  go_enter Try.func46, Try.ntmps46
  go_wp2_with fail
  refine (call_any B R c w0 s a _ (HM.out.alloc _)).mono ?_
  intro e w1 he
  rcases he.parts with ⟨u, s1, HR, rfl, Hm⟩ | ⟨s1, HR, rfl, Hm⟩ <;> clear he <;> simp only [unitV]
  · go_wp2_with fail
    go_returns
    exact MEnd.ok (HP.out.trans HR.out) rfl Hm.out
  · go_wp2_with fail
    exact ⟨rfl, MEnd.of_stop (HP.out.trans HR.out) Hm.out⟩

set_option maxHeartbeats 400000 in
theorem do14 (B R : Nat) (c : Mc.Cfg) (w0 : World) (s : Mc.St) (a b : Int) (w : World) (h : Mch B R c w0 w s) (ha : fit64 a) (hb : fit64 b) :
    Calls Try.prog 46 #[.pointer (some ⟨R, 0, none⟩), .agg #[.int .i64 14, .int .i64 a, .int .i64 b]] w (MEnd B R c w0 (Mc.doI c.mt ⟨14, a, b⟩ s) unitV) := by
  have HM : Hid (Mch B R c w0 w s) := h
  have HP : Hid (Mc.doI c.mt ⟨14, a, b⟩ s = Mc.enter a b s) := rfl
  clear h
  go_enter Try.func46, Try.ntmps46
  go_wp2_with fail
  refine (enter_any B R c w0 s a b _ (HM.out.alloc _) ha hb).mono ?_
  intro e w1 he
  rcases he.parts with ⟨u, s1, HR, rfl, Hm⟩ | ⟨s1, HR, rfl, Hm⟩ <;> clear he <;> simp only [unitV]
  · go_wp2_with fail
    go_returns
    exact MEnd.ok (HP.out.trans HR.out) rfl Hm.out
  · go_wp2_with fail
    exact ⟨rfl, MEnd.of_stop (HP.out.trans HR.out) Hm.out⟩

set_option maxHeartbeats 400000 in
theorem do15 (B R : Nat) (c : Mc.Cfg) (w0 : World) (s : Mc.St) (a b : Int) (w : World) (h : Mch B R c w0 w s) :
    Calls Try.prog 46 #[.pointer (some ⟨R, 0, none⟩), .agg #[.int .i64 15, .int .i64 a, .int .i64 b]] w (MEnd B R c w0 (Mc.doI c.mt ⟨15, a, b⟩ s) unitV) := by
  have HM : Hid (Mch B R c w0 w s) := h
  have HP : Hid (Mc.doI c.mt ⟨15, a, b⟩ s = Mc.ret s) := rfl
  clear h
  go_enter Try.func46, Try.ntmps46
  go_wp2_with fail
  refine (ret_any B R c w0 s _ (HM.out.alloc _)).mono ?_
  intro e w1 he
  rcases he.parts with ⟨u, s1, HR, rfl, Hm⟩ | ⟨s1, HR, rfl, Hm⟩ <;> clear he <;> simp only [unitV]
  · go_wp2_with fail
    go_returns
    exact MEnd.ok (HP.out.trans HR.out) rfl Hm.out
  · go_wp2_with fail
    exact ⟨rfl, MEnd.of_stop (HP.out.trans HR.out) Hm.out⟩

set_option maxHeartbeats 400000 in
theorem do16 (B R : Nat) (c : Mc.Cfg) (w0 : World) (s : Mc.St) (a b : Int) (w : World) (h : Mch B R c w0 w s) :
    Calls Try.prog 46 #[.pointer (some ⟨R, 0, none⟩), .agg #[.int .i64 16, .int .i64 a, .int .i64 b]] w (MEnd B R c w0 (Mc.doI c.mt ⟨16, a, b⟩ s) unitV) := by
  have HM : Hid (Mch B R c w0 w s) := h
  have HP : Hid (Mc.doI c.mt ⟨16, a, b⟩ s = Mc.tick c.mt s) := rfl
  clear h
  go_enter Try.func46, Try.ntmps46
  go_wp2_with fail
  refine (tick_any B R c w0 s _ (HM.out.alloc _)).mono ?_
  intro e w1 he
  rcases he.parts with ⟨u, s1, HR, rfl, Hm⟩ | ⟨s1, HR, rfl, Hm⟩ <;> clear he <;> simp only [unitV]
  · go_wp2_with fail
    go_returns
    exact MEnd.ok (HP.out.trans HR.out) rfl Hm.out
  · go_wp2_with fail
    exact ⟨rfl, MEnd.of_stop (HP.out.trans HR.out) Hm.out⟩

set_option maxHeartbeats 400000 in
theorem do9 (B R : Nat) (c : Mc.Cfg) (w0 : World) (s : Mc.St) (a b : Int) (w : World) (h : Mch B R c w0 w s) :
    Calls Try.prog 46 #[.pointer (some ⟨R, 0, none⟩), .agg #[.int .i64 9, .int .i64 a, .int .i64 b]] w (MEnd B R c w0 (Mc.doI c.mt ⟨9, a, b⟩ s) unitV) := by
  have HM : Hid (Mch B R c w0 w s) := h
  have HP : Hid (Mc.doI c.mt ⟨9, a, b⟩ s = (Mc.pop s).bind fun n s => Mc.push (Mc.truth (n == 0)) s) := rfl
  clear h
  go_enter Try.func46, Try.ntmps46
  go_wp2_with fail
  refine (pop_any B R c w0 s _ (HM.out.alloc _)).mono ?_
  intro e w1 he
  rcases he.parts with ⟨x, s1, HR, rfl, Hm⟩ | ⟨s1, HR, rfl, Hm⟩ <;> clear he <;> simp only [intV]
  · have HP1 := hid (HP.out.trans (bind_ok _ HR.out))
    clear HP HR
    go_wp2_with fail
    refine (truth_any _ _).mono ?_
    rintro e w' ⟨rfl, rfl⟩
    go_wp2_with fail
    refine (push_any B R c w0 s1 _ _ Hm.out).mono ?_
    intro e w2 he
    rcases he.parts with ⟨u, s2, HR, rfl, Hm2⟩ | ⟨s2, HR, rfl, Hm2⟩ <;> clear he <;> simp only [unitV]
    · go_wp2_with fail
      go_returns
      exact MEnd.ok (HP1.out.trans HR.out) rfl Hm2.out
    · go_wp2_with fail
      exact ⟨rfl, MEnd.of_stop (HP1.out.trans HR.out) Hm2.out⟩
  · go_wp2_with fail
    exact ⟨rfl, MEnd.of_stop (HP.out.trans (bind_stop _ HR.out)) Hm.out⟩

set_option maxHeartbeats 400000 in
theorem do22 (B R : Nat) (c : Mc.Cfg) (w0 : World) (s : Mc.St) (a b : Int) (w : World) (h : Mch B R c w0 w s) :
    Calls Try.prog 46 #[.pointer (some ⟨R, 0, none⟩), .agg #[.int .i64 22, .int .i64 a, .int .i64 b]] w (MEnd B R c w0 (Mc.doI c.mt ⟨22, a, b⟩ s) unitV) := by
  have HM : Hid (Mch B R c w0 w s) := h
  have HP : Hid (Mc.doI c.mt ⟨22, a, b⟩ s = (Mc.pop s).bind fun n s => Mc.push (Mc.truth (n != 0)) s) := rfl
  clear h
  go_enter Try.func46, Try.ntmps46
  go_wp2_with fail
  refine (pop_any B R c w0 s _ (HM.out.alloc _)).mono ?_
  intro e w1 he
  rcases he.parts with ⟨x, s1, HR, rfl, Hm⟩ | ⟨s1, HR, rfl, Hm⟩ <;> clear he <;> simp only [intV]
  · have HP1 := hid (HP.out.trans (bind_ok _ HR.out))
    clear HP HR
    go_wp2_with fail
    refine (truth_any _ _).mono ?_
    rintro e w' ⟨rfl, rfl⟩
    go_wp2_with fail
    refine (push_any B R c w0 s1 _ _ Hm.out).mono ?_
    intro e w2 he
    rcases he.parts with ⟨u, s2, HR, rfl, Hm2⟩ | ⟨s2, HR, rfl, Hm2⟩ <;> clear he <;> simp only [unitV]
    · go_wp2_with fail
      go_returns
      exact MEnd.ok (HP1.out.trans HR.out) rfl Hm2.out
    · go_wp2_with fail
      exact ⟨rfl, MEnd.of_stop (HP1.out.trans HR.out) Hm2.out⟩
  · go_wp2_with fail
    exact ⟨rfl, MEnd.of_stop (HP.out.trans (bind_stop _ HR.out)) Hm.out⟩

set_option maxHeartbeats 400000 in
theorem do18 (B R : Nat) (c : Mc.Cfg) (w0 : World) (s : Mc.St) (a b : Int) (w : World) (h : Mch B R c w0 w s) :
    Calls Try.prog 46 #[.pointer (some ⟨R, 0, none⟩), .agg #[.int .i64 18, .int .i64 a, .int .i64 b]] w (MEnd B R c w0 (Mc.doI c.mt ⟨18, a, b⟩ s) unitV) := by
  have HM : Hid (Mch B R c w0 w s) := h
  have HP : Hid (Mc.doI c.mt ⟨18, a, b⟩ s = (Mc.next s).bind Mc.push) := rfl
  clear h
  go_enter Try.func46, Try.ntmps46
  go_wp2_with fail
  refine (next_any B R c w0 s _ (HM.out.alloc _)).mono ?_
  intro e w1 he
  rcases he.parts with ⟨x, s1, HR, rfl, Hm⟩ | ⟨s1, HR, rfl, Hm⟩ <;> clear he <;> simp only [intV]
  · have HP1 := hid (HP.out.trans (bind_ok _ HR.out))
    clear HP HR
    go_wp2_with fail
    refine (push_any B R c w0 s1 _ _ Hm.out).mono ?_
    intro e w2 he
    rcases he.parts with ⟨u, s2, HR, rfl, Hm2⟩ | ⟨s2, HR, rfl, Hm2⟩ <;> clear he <;> simp only [unitV]
    · go_wp2_with fail
      go_returns
      exact MEnd.ok (HP1.out.trans HR.out) rfl Hm2.out
    · go_wp2_with fail
      exact ⟨rfl, MEnd.of_stop (HP1.out.trans HR.out) Hm2.out⟩
  · go_wp2_with fail
    exact ⟨rfl, MEnd.of_stop (HP.out.trans (bind_stop _ HR.out)) Hm.out⟩

set_option maxHeartbeats 400000 in
theorem do19 (B R : Nat) (c : Mc.Cfg) (w0 : World) (s : Mc.St) (a b : Int) (w : World) (h : Mch B R c w0 w s) :
    Calls Try.prog 46 #[.pointer (some ⟨R, 0, none⟩), .agg #[.int .i64 19, .int .i64 a, .int .i64 b]] w (MEnd B R c w0 (Mc.doI c.mt ⟨19, a, b⟩ s) unitV) := by
  have HM : Hid (Mch B R c w0 w s) := h
  have HP : Hid (Mc.doI c.mt ⟨19, a, b⟩ s = (Mc.pop s).bind Mc.tell) := rfl
  clear h
  go_enter Try.func46, Try.ntmps46
  go_wp2_with fail
  refine (pop_any B R c w0 s _ (HM.out.alloc _)).mono ?_
  intro e w1 he
  rcases he.parts with ⟨x, s1, HR, rfl, Hm⟩ | ⟨s1, HR, rfl, Hm⟩ <;> clear he <;> simp only [intV]
  · have HP1 := hid (HP.out.trans (bind_ok _ HR.out))
    clear HP HR
    go_wp2_with fail
    refine (tell_any B R c w0 s1 _ _ Hm.out).mono ?_
    intro e w2 he
    rcases he.parts with ⟨u, s2, HR, rfl, Hm2⟩ | ⟨s2, HR, rfl, Hm2⟩ <;> clear he <;> simp only [unitV]
    · go_wp2_with fail
      go_returns
      exact MEnd.ok (HP1.out.trans HR.out) rfl Hm2.out
    · go_wp2_with fail
      exact ⟨rfl, MEnd.of_stop (HP1.out.trans HR.out) Hm2.out⟩
  · go_wp2_with fail
    exact ⟨rfl, MEnd.of_stop (HP.out.trans (bind_stop _ HR.out)) Hm.out⟩

set_option maxHeartbeats 400000 in
theorem do17 (B R : Nat) (c : Mc.Cfg) (w0 : World) (s : Mc.St) (a b : Int) (w : World) (h : Mch B R c w0 w s) :
    Calls Try.prog 46 #[.pointer (some ⟨R, 0, none⟩), .agg #[.int .i64 17, .int .i64 a, .int .i64 b]] w (MEnd B R c w0 (Mc.doI c.mt ⟨17, a, b⟩ s) unitV) := by
  have HM : Hid (Mch B R c w0 w s) := h
  have HP : Hid (Mc.doI c.mt ⟨17, a, b⟩ s = (Mc.pop s).bind fun _ s => .ok () s) := rfl
  clear h
  go_enter Try.func46, Try.ntmps46
  go_wp2_with fail
  refine (pop_any B R c w0 s _ (HM.out.alloc _)).mono ?_
  intro e w1 he
  rcases he.parts with ⟨x, s1, HR, rfl, Hm⟩ | ⟨s1, HR, rfl, Hm⟩ <;> clear he <;> simp only [intV]
  · go_wp2_with fail
    go_returns
    exact MEnd.ok (HP.out.trans (bind_ok _ HR.out)) rfl Hm.out
  · go_wp2_with fail
    exact ⟨rfl, MEnd.of_stop (HP.out.trans (bind_stop _ HR.out)) Hm.out⟩

theorem Mch.pc {B R : Nat} {c : Mc.Cfg} {w0 w : World} {s : Mc.St} (h : Mch B R c w0 w s) (e : Int) : Mch B R c w0 (w.setCell ⟨R, 1, none⟩ (.int .i64 e)) { s with pc := e } := by
  obtain ⟨T, v, h⟩ := h
  exact ⟨T, v, h.setPc e⟩
theorem Mch.cell1 {B R : Nat} {c : Mc.Cfg} {w0 w : World} {s : Mc.St} (h : Mch B R c w0 w s) : w.cell? ⟨R, 1, none⟩ = some (.int .i64 s.pc) ∧ w.frozen? ⟨R, 1, none⟩ = false ∧ R < w.heap.size := by
  obtain ⟨T, v, h⟩ := h
  exact ⟨h.cell.2.1, h.cell.2.2.2.2.2.2.2.2.2.2.2.2.2 1, h.ltR⟩

set_option maxHeartbeats 400000 in
theorem do11 (B R : Nat) (c : Mc.Cfg) (w0 : World) (s : Mc.St) (a b : Int) (w : World) (h : Mch B R c w0 w s) :
    Calls Try.prog 46 #[.pointer (some ⟨R, 0, none⟩), .agg #[.int .i64 11, .int .i64 a, .int .i64 b]] w (MEnd B R c w0 (Mc.doI c.mt ⟨11, a, b⟩ s) unitV) := by
  have HM : Hid (Mch B R c w0 w s) := h
  have HP : Hid (Mc.doI c.mt ⟨11, a, b⟩ s = .ok () { s with pc := a }) := rfl
  obtain ⟨c1, f1, hl⟩ := h.cell1
  clear h
  go_enter Try.func46, Try.ntmps46
  go_wp2_with fail
  go_returns
  exact MEnd.ok HP.out rfl ((HM.out.pc a).alloc _)

set_option maxHeartbeats 400000 in
theorem do12 (B R : Nat) (c : Mc.Cfg) (w0 : World) (s : Mc.St) (a b : Int) (w : World) (h : Mch B R c w0 w s) :
    Calls Try.prog 46 #[.pointer (some ⟨R, 0, none⟩), .agg #[.int .i64 12, .int .i64 a, .int .i64 b]] w (MEnd B R c w0 (Mc.doI c.mt ⟨12, a, b⟩ s) unitV) := by
  have HM : Hid (Mch B R c w0 w s) := h
  have HP : Hid (Mc.doI c.mt ⟨12, a, b⟩ s = (Mc.pop s).bind fun n s => .ok () (if n = 0 then { s with pc := a } else s)) := rfl
  have hRl := h.get.2.2
  clear h
  obtain ⟨T, v, h⟩ := HM.out
  have HA := hid h
  clear h
  go_enter Try.func46, Try.ntmps46
  go_wp2_with fail
  refine (pop_keep B R c w0 s _ T v (HA.out.alloc _)).mono ?_
  rintro e w1 ⟨he, hk⟩
  have d1 : w1.cell? ⟨w.heap.size, 1, none⟩ = some (.int .i64 a) := ((World.cell?_of_block (w := w.alloc _) (hk w.heap.size (by omega))).trans (by simp))
  rcases he.plain.parts with ⟨x, s1, HR, rfl, Hm⟩ | ⟨s1, HR, rfl, Hm⟩ <;> clear he hk <;> simp only [intV]
  · have HP1 := hid (HP.out.trans (bind_ok _ HR.out))
    clear HP HR
    obtain ⟨c1, f1, hl⟩ := Hm.out.cell1
    by_cases hx : x = 0
    · have HP2 : Hid (Mc.doI c.mt ⟨12, a, b⟩ s = .ok () { s1 with pc := a }) := by
        have := HP1.out
        rw [if_pos hx] at this
        exact this
      subst hx
      clear HP1
      go_wp2_with fail
      go_returns
      exact MEnd.ok HP2.out rfl (Hm.out.pc a)
    · have HP2 : Hid (Mc.doI c.mt ⟨12, a, b⟩ s = .ok () s1) := by
        have := HP1.out
        rw [if_neg hx] at this
        exact this
      have hx' : (x == 0) = false := beq_eq_false_iff_ne.2 hx
      clear HP1 hx
      go_wp2_with fail
      go_returns
      exact MEnd.ok HP2.out rfl Hm.out
  · go_wp2_with fail
    exact ⟨rfl, MEnd.of_stop (HP.out.trans (bind_stop _ HR.out)) Hm.out⟩

set_option maxHeartbeats 400000 in
theorem do20 (B R : Nat) (c : Mc.Cfg) (w0 : World) (s : Mc.St) (a b : Int) (w : World) (h : Mch B R c w0 w s) :
    Calls Try.prog 46 #[.pointer (some ⟨R, 0, none⟩), .agg #[.int .i64 20, .int .i64 a, .int .i64 b]] w (MEnd B R c w0 (Mc.doI c.mt ⟨20, a, b⟩ s) unitV) := by
  have HM : Hid (Mch B R c w0 w s) := h
  have HP : Hid (Mc.doI c.mt ⟨20, a, b⟩ s = .stop { s with en := 0 }) := rfl
  clear h
  go_enter Try.func46, Try.ntmps46
  go_wp2_with fail
  refine (halt_any 0 _ (HM.out.alloc _)).mono ?_
  rintro e w2 ⟨rfl, hm⟩
  go_wp2_with fail
  exact ⟨rfl, MEnd.stop HP.out rfl hm⟩

set_option maxHeartbeats 400000 in
theorem do21 (B R : Nat) (c : Mc.Cfg) (w0 : World) (s : Mc.St) (a b : Int) (w : World) (h : Mch B R c w0 w s) :
    Calls Try.prog 46 #[.pointer (some ⟨R, 0, none⟩), .agg #[.int .i64 21, .int .i64 a, .int .i64 b]] w (MEnd B R c w0 (Mc.doI c.mt ⟨21, a, b⟩ s) unitV) := by
  have HM : Hid (Mch B R c w0 w s) := h
  have HP : Hid (Mc.doI c.mt ⟨21, a, b⟩ s = .ok () s) := rfl
  clear h
  go_enter Try.func46, Try.ntmps46
  go_wp2_with fail
  go_returns
  exact MEnd.ok HP.out rfl (HM.out.alloc _)

end Go.Proofs.Ytpahhhhfhnpmjaa
