/-
  More instructions: a place that is taken from the stack.
-/
import Derived.Test.YtpahhhhfhnpmjaaDob
namespace Go.Proofs.Ytpahhhhfhnpmjaa
open Go.RowKit Go.Shelf
set_option maxRecDepth 100000

set_option maxHeartbeats 1600000 in
theorem do7 (B R : Nat) (c : Mc.Cfg) (w0 : World) (s : Mc.St) (a b : Int) (w : World) (h : Mch B R c w0 w s) :
    Calls Try.prog 46 #[.pointer (some ⟨R, 0, none⟩), .agg #[.int .i64 7, .int .i64 a, .int .i64 b]] w (MEnd B R c w0 (Mc.doI c.mt ⟨7, a, b⟩ s) unitV) := by
  have HM : Hid (Mch B R c w0 w s) := h
  have HP : Hid (Mc.doI c.mt ⟨7, a, b⟩ s = (Mc.pop s).bind fun a s => (Mc.getL s.data a s).bind Mc.push) := rfl
  clear h
  obtain ⟨T, v, h⟩ := HM.out
  obtain ⟨da, dc, hv, -⟩ := h.dataAt
  have HV := hid hv
  have c5 : w.cell? ⟨R, 5, none⟩ = some (.slice da s.data.length dc) := by rw [← hv]; exact h.cell.2.2.2.2.2.1
  have hbd := h.bda
  have HGet : Hid (∀ (x : Int) (l : List Int) (w2 : World) (T2 : Nat → Nat) (v2 : Vs), MAt B R c w0 w2 T2 v2 { s with stack := l } → v2.da = v.da → Calls Try.prog 48 #[.pointer (some ⟨R, 0, none⟩), .slice da s.data.length dc, .int .i64 x] w2 (MEnd B R c w0 (Mc.getL s.data x { s with stack := l }) intV)) := fun x l w2 T2 v2 h2 e => by
    refine get_any B R c w0 { s with stack := l } da dc s.data x w2 ⟨T2, v2, h2⟩ ?_ (by omega)
    obtain ⟨da', dc', hv', hC, _⟩ := h2.dataAt
    rw [e, hv, Value.slice.injEq] at hv'
    rw [hv'.1]; exact hC
  have HA := hid h
  have hRl := h.ltR
  clear h hv
  go_enter Try.func46, Try.ntmps46
  go_wp2_with fail
  go_region_law (first
    | (refine step_callE (by rfl) 51 _ _ (by rfl) en39 _ (by kernel_rfl) (pop_keep B R c w0 s _ T v (HA.out.alloc _).drew) (fun w' h => h.1.noOut) (fun ch w' h => by obtain ⟨s2, HR, rfl, Hm⟩ := h.1.pan; exact ⟨rfl, MEnd.of_stop (HP.out.trans (bind_stop _ HR.out)) Hm.out⟩) ?_; rintro _ w2 ⟨he, hk⟩; obtain ⟨x, s2, HR2, rfl, T2, v2, HM2, hlo, hda⟩ := he.ret; obtain ⟨l2, hs2⟩ := pop_form HR2.out; subst hs2; have HD := hid hda; have d5 : w2.cell? ⟨R, 5, none⟩ = some (.slice da s.data.length dc) := (by rw [← HV.out, ← hda]; exact HM2.out.cell.2.2.2.2.2.1); clear he hk hlo hda; simp only [intV])
    | (refine step_callE (by rfl) 48 _ _ (by rfl) en36 _ (by kernel_rfl) (HGet.out x l2 _ T2 v2 HM2.out HD.out) (fun w' h => h.noOut) (fun ch w' h => by obtain ⟨s3, HR, rfl, Hm⟩ := h.pan; exact ⟨rfl, MEnd.of_stop (HP.out.trans ((bind_ok _ HR2.out).trans (bind_stop _ HR.out))) Hm.out⟩) ?_; intro _ w3 he; obtain ⟨y, s3, HR3, rfl, Hm3⟩ := he.ret; clear he; simp only [intV])
    | (refine step_callE (by rfl) 47 _ _ (by rfl) en35 _ (by kernel_rfl) (push_any B R c w0 s3 y _ Hm3.out) (fun w' h => h.noOut) (fun ch w' h => by obtain ⟨s4, HR, rfl, Hm⟩ := h.pan; exact ⟨rfl, MEnd.of_stop (HP.out.trans ((bind_ok _ HR2.out).trans ((bind_ok _ HR3.out).trans HR.out))) Hm.out⟩) ?_; intro _ w4 he; obtain ⟨u, s4, HR4, rfl, Hm4⟩ := he.ret; clear he; simp only [unitV]))
  all_goals
    go_wp2_with fail
    go_returns
    exact MEnd.ok (HP.out.trans ((bind_ok _ HR2.out).trans ((bind_ok _ HR3.out).trans HR4.out))) rfl Hm4.out

set_option maxHeartbeats 1600000 in
theorem do8 (B R : Nat) (c : Mc.Cfg) (w0 : World) (s : Mc.St) (a b : Int) (w : World) (h : Mch B R c w0 w s) :
    Calls Try.prog 46 #[.pointer (some ⟨R, 0, none⟩), .agg #[.int .i64 8, .int .i64 a, .int .i64 b]] w (MEnd B R c w0 (Mc.doI c.mt ⟨8, a, b⟩ s) unitV) := by
  have HM : Hid (Mch B R c w0 w s) := h
  have HP : Hid (Mc.doI c.mt ⟨8, a, b⟩ s = (Mc.pop s).bind fun n s => (Mc.pop s).bind fun a s => Mc.putDa a n s) := rfl
  clear h
  go_enter Try.func46, Try.ntmps46
  go_wp2_with fail
  refine (pop_any B R c w0 s _ (HM.out.alloc _)).mono ?_
  intro e w1 he
  rcases he.parts with ⟨n, s1, HR, rfl, Hm⟩ | ⟨s1, HR, rfl, Hm⟩ <;> clear he <;> simp only [intV]
  · have HP1 := hid (HP.out.trans (bind_ok _ HR.out))
    clear HP HR HM
    obtain ⟨T, v, h⟩ := Hm.out
    obtain ⟨da, dc, hv, -⟩ := h.dataAt
    have HV := hid hv
    have c5 : w1.cell? ⟨R, 5, none⟩ = some (.slice da s1.data.length dc) := by rw [← hv]; exact h.cell.2.2.2.2.2.1
    have HPut : Hid (∀ (x : Int) (l : List Int) (w2 : World) (T2 : Nat → Nat) (v2 : Vs), MAt B R c w0 w2 T2 v2 { s1 with stack := l } → v2.da = v.da → Calls Try.prog 50 #[.pointer (some ⟨R, 0, none⟩), .slice da s1.data.length dc, .int .i64 x, .int .i64 n] w2 (MEnd B R c w0 (Mc.putDa x n { s1 with stack := l }) unitV)) := fun x l w2 T2 v2 h2 e => by
      have := putDa_any B R c w0 { s1 with stack := l } x n w2 T2 v2 h2
      rw [e, hv] at this
      exact this
    have HA := hid h
    have hRl := h.ltR
    clear h hv
    go_wp2_with fail
    go_region_law (first
      | (refine step_callE (by rfl) 51 _ _ (by rfl) en39 _ (by kernel_rfl) (pop_keep B R c w0 s1 _ T v HA.out.drew) (fun w' h => h.1.noOut) (fun ch w' h => by obtain ⟨s2, HR, rfl, Hm⟩ := h.1.pan; exact ⟨rfl, MEnd.of_stop (HP1.out.trans (bind_stop _ HR.out)) Hm.out⟩) ?_; rintro _ w2 ⟨he, hk⟩; obtain ⟨x, s2, HR2, rfl, T2, v2, HM2, hlo, hda⟩ := he.ret; obtain ⟨l2, hs2⟩ := pop_form HR2.out; subst hs2; have HD := hid hda; have d5 : w2.cell? ⟨R, 5, none⟩ = some (.slice da s1.data.length dc) := (by rw [← HV.out, ← hda]; exact HM2.out.cell.2.2.2.2.2.1); clear he hk hlo hda; simp only [intV])
      | (refine step_callE (by rfl) 50 _ _ (by rfl) en38 _ (by kernel_rfl) (HPut.out x l2 _ T2 v2 HM2.out HD.out) (fun w' h => h.noOut) (fun ch w' h => by obtain ⟨s3, HR, rfl, Hm⟩ := h.pan; exact ⟨rfl, MEnd.of_stop (HP1.out.trans ((bind_ok _ HR2.out).trans HR.out)) Hm.out⟩) ?_; intro _ w3 he; obtain ⟨u, s3, HR3, rfl, Hm3⟩ := he.ret; clear he; simp only [unitV]))
    all_goals
      go_wp2_with fail
      go_returns
      exact MEnd.ok (HP1.out.trans ((bind_ok _ HR2.out).trans HR3.out)) rfl Hm3.out
  · go_wp2_with fail
    exact ⟨rfl, MEnd.of_stop (HP.out.trans (bind_stop _ HR.out)) Hm.out⟩

end Go.Proofs.Ytpahhhhfhnpmjaa
