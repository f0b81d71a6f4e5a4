/-
  What the machine enters: a frame's locals, taken from the stack, and noughts behind them.
-/
import Derived.Test.YtpahhhhfhnpmjaaOpu
import Derived.Test.YtpahhhhfhnpmjaaApp
import Derived.Deep.RegionLaw
import Derived.Shelf.Abstract
namespace Go.Proofs.Ytpahhhhfhnpmjaa
open Go.RowKit Go.Shelf
set_option maxRecDepth 100000

section
variable {P : Program} {ops : Array Oper} {o : Oper} {a : Act} {w : World} {K : Act → World → Prop} {Q : Exit → Act → World → Prop} {E : Prop}
theorem run_call1 (f : FuncId) (x : Operand) (ty : TypeId) (ho : o.op = .call { callee := .value (.func f), args := #[x], argTypes := #[ty] })
    (hen : Enters P f) (v : Value) (hx : a.eval x = v) : (execOp a.eval o).run P w = .ok (.enter f #[v]) w := by
  have h := hen #[v] w
  have hf : a.eval (.func f) = .func (.func f) #[] #[] := rfl
  simp [execOp, ho, resolve, invoke, hx, hf, h, Deferred.ofValue]
theorem step_call1 (hgd : o.guard = none) (f : FuncId) (x : Operand) (ty : TypeId) (ho : o.op = .call { callee := .value (.func f), args := #[x], argTypes := #[ty] })
    (hen : Enters P f) (v : Value) (hx : a.eval x = v) (u : Value) {R : World → Prop} (hC : Calls P f #[v] w fun e w' => e = .returned u ∧ R w')
    (h : ∀ w', R w' → K (a.put o.dst u) w') : if Region.wanted o (yielded ops a.tmps) = true then Oper.wp P o a w K Q else E := by
  have hw : Region.wanted o (yielded ops a.tmps) = true := by simp [Region.wanted, hgd]
  rw [if_pos hw]
  unfold Oper.wp
  rw [run_call1 f x ty ho hen v hx, Oper.upon_enter]
  refine hC.mono ?_
  rintro e w' ⟨rfl, hR⟩
  exact h w' hR
end
theorem en49 : Enters Try.prog 60 := enters_of Try.func60 (by kernel_rfl) rfl
theorem int3 : Try.prog.underlying 3 = some (.int .i64) := Try.underlying3

/- the locals are those that were on the stack -/
theorem MAt.setLo' {B R : Nat} {c : Mc.Cfg} {w0 w w2 : World} {T : Nat → Nat} {v : Vs} {s : Mc.St} {la a' : Option Addr} {m lcap n' cap' : Nat} {l : List Int} {xs' : List Value} (h : MAt B R c w0 w T v s) {N : Nat} (hv : v.lo = .slice la N lcap)
    (hG : Grew w w2 B 3 1 (.slice la m lcap) a' n' cap' xs') (hn : n' = (flat s.gs ++ l).length) (hxs : xs' = ints (flat s.gs ++ l)) (hl : l.length ≤ 2048) :
    MAt B R c w0 (w2.setCell ⟨R, 3, none⟩ (.slice a' n' cap')) (grownT w T 3) { v with lo := .slice a' n' cap' } { s with lo := l } := by
  have e : v.lo.ownBlock = Value.ownBlock (.slice la m lcap) := by rw [hv]; cases la <;> rfl
  subst hn; subst hxs
  exact h.setLo (by rw [e]; exact hG.grown) hG.own (fun k hk hlt => by rw [e]; exact hG.lies k hk hlt) hl

theorem MAt.farLo {B R : Nat} {c : Mc.Cfg} {w0 w w2 : World} {T : Nat → Nat} {v : Vs} {s : Mc.St} {la a' : Option Addr} {m lcap n' cap' N : Nat} {xs' : List Value} (h : MAt B R c w0 w T v s) (hv : v.lo = .slice la N lcap)
    (hG : Grew w w2 B 3 1 (.slice la m lcap) a' n' cap' xs') : (∀ j, w2.cell? ⟨R, j, none⟩ = w.cell? ⟨R, j, none⟩) ∧ (∀ j, w2.frozen? ⟨R, j, none⟩ = false) ∧ R < w2.heap.size := by
  have e : v.lo.ownBlock = Value.ownBlock (.slice la m lcap) := by rw [hv]; cases la <;> rfl
  exact h.far (fun k hk => h.lo.mark k (by rw [e]; exact hk)) (by decide) hG.grown

set_option maxHeartbeats 1600000 in
theorem enter_ok (B R : Nat) (c : Mc.Cfg) (w0 : World) (s : Mc.St) (ka kb : Nat) (w : World) (h : Mch B R c w0 w s) (hab : ka + kb ≤ 2048) (hle : ka ≤ s.stack.length) :
    Calls Try.prog 55 #[.pointer (some ⟨R, 0, none⟩), .int .i64 ka, .int .i64 kb] w fun e w' => e = .returned (.tuple #[]) ∧ Mch B R c w0 w' { s with lo := s.stack.drop (s.stack.length - ka) ++ List.replicate kb 0, stack := s.stack.take (s.stack.length - ka) } := by
  obtain ⟨i0, hi, hz0, hz1, hz2⟩ := info_parts info3
  obtain ⟨T, ⟨cv, st, lo, fr, da, iv, ou⟩, h⟩ := h
  obtain ⟨la, lcap, hv, hlcap, hlmax⟩ := h.lo.form
  simp only at hv
  subst hv
  obtain ⟨r, hr⟩ : ∃ r, s.stack.length = r + ka := ⟨s.stack.length - ka, by omega⟩
  have hrk : s.stack.length - ka = r := by omega
  rw [hrk]
  have hlm := h.locals_le
  have hb1 := h.bst
  have hRl := h.ltR
  have hfl := flat_len s.gs h.bfr
  have hml : (flat s.gs).length ≤ (flat s.gs ++ s.lo).length := by rw [List.length_append]; omega
  have hdl : (s.stack.drop r).length = ka := by rw [List.length_drop]; omega
  obtain ⟨sa, scap, hv, hscap, hsmax⟩ := h.st.form
  simp only at hv
  subst hv
  have HA : Hid (MAt B R c w0 w T ⟨cv, .slice sa s.stack.length scap, .slice la (flat s.gs ++ s.lo).length lcap, fr, da, iv, ou⟩ s) := h
  have HT : Hid (∀ w, MAt B R c w0 w T ⟨cv, .slice sa s.stack.length scap, .slice la (flat s.gs ++ s.lo).length lcap, fr, da, iv, ou⟩ s → Calls Try.prog 60 #[.pointer (some ⟨R, 0, none⟩)] w fun e w' => e = .returned (.agg #[.int .i64 ((flat s.gs).length : Nat), .int .i64 s.bk]) ∧ Below w.heap.size w w') := fun w h => top_any B R c w0 s w T _ h
  have HF : Hid (∀ (w1 : World) (xa : Option Addr) (xc : Nat) (ty : TypeId), MAt B R c w0 w1 T ⟨cv, .slice sa s.stack.length scap, .slice la (flat s.gs ++ s.lo).length lcap, fr, da, iv, ou⟩ s → ((xa = none ∧ ka = 0) ∨ (ka = 0 ∧ ∃ g, xa = some ⟨g, 0, none⟩) ∨ ∃ g, sa = some ⟨g, 0, none⟩ ∧ xa = some ⟨g, r, none⟩) →
      ∃ a' cap' w', (Builtin.append_ #[37, 37] ty #[.slice la (flat s.gs).length lcap, .slice xa ka xc]).run Try.prog w1 = .ok (.slice a' ((flat s.gs).length + ka) cap') w' ∧ Grew w1 w' B 3 1 (.slice la (flat s.gs).length lcap) a' ((flat s.gs).length + ka) cap' (ints (flat s.gs) ++ ints (s.stack.drop r))) := fun w1 xa xc ty hm hx => by
    have hcut := (hm.lo.cut (m := (flat s.gs).length) hml rfl).own
    rw [Nat.mul_one, ints_take, List.take_left] at hcut
    refine run_append_form w1 B 37 ty 3 i0 _ 1 8 Try.underlying37 hi hz0 hz1 hz2 rfl (by omega) _ _ _ hcut xa ka xc (ints (s.stack.drop r)) (by rw [ints_length, hdl, Nat.mul_one]) ?_ (ints_one _) (by unfold maxLen; omega) (by omega) hm.hB
    rcases hx with hx | ⟨hk, g, hx⟩ | ⟨g, hs, hx⟩
    · exact Or.inl hx
    · refine Or.inr ⟨_, hx, fun j u hj => ?_⟩
      rw [List.eq_nil_of_length_eq_zero (hdl.trans hk)] at hj
      simp [ints] at hj
    · refine Or.inr ⟨_, hx, fun j u hj => ?_⟩
      have hlen : 0 < s.stack.length := by
        have : j < (ints (s.stack.drop r)).length := by
          rcases Nat.lt_or_ge j (ints (s.stack.drop r)).length with h | h
          · exact h
          · rw [List.getElem?_eq_none h] at hj; cases hj
        rw [ints_length, List.length_drop] at this
        omega
      obtain ⟨g', cap', hv', _, _, _, _, _, _, hcell⟩ := hm.st.place hlen
      simp only [hs, Value.slice.injEq] at hv'
      have hg : g = g' := by simpa using hv'.1
      subst hg
      have := hcell (r + j) u (by
        rw [← hj]
        simp [ints, List.getElem?_drop])
      rw [show (⟨g, r, none⟩ : Addr).add j = ⟨g, r + j, none⟩ from by unfold Addr.add; split <;> simp_all]
      exact this
  have HZ : Hid (∀ (w1 : World) (T' : Nat → Nat) (v' : Vs) (a' : Option Addr) (cap' : Nat) (ty : TypeId), MAt B R c w0 w1 T' v' { s with lo := s.stack.drop r } → v'.lo = .slice a' ((flat s.gs).length + ka) cap' →
      ∃ a2 cap2 w', (Builtin.append_ #[37, 3] ty #[.slice a' ((flat s.gs).length + ka) cap', .int .i64 kb]).run Try.prog w1 = .ok (.slice a2 ((flat s.gs).length + ka + kb) cap2) w' ∧ Grew w1 w' B 3 1 (.slice a' ((flat s.gs).length + ka) cap') a2 ((flat s.gs).length + ka + kb) cap2 (ints (flat s.gs ++ s.stack.drop r) ++ ints (List.replicate kb 0))) := fun w1 T' v' a' cap' ty hm hv => by
    have ho := hm.lo.own
    rw [hv] at ho
    simp only [List.length_append, hdl] at ho
    exact run_append_zeros w1 B 37 3 ty 3 i0 .i64 Try.underlying37 int3 hi hz0 hz1 hz2 _ _ _ ho kb (by omega) hm.hB
  obtain ⟨-, -, c2, c3, -, -, -, -, -, -, -, -, -, hf⟩ := h.cell
  simp only at c2 c3
  rw [hr] at c2 hscap
  have HS : Hid (sa = none ∧ r = 0 ∧ ka = 0 ∧ scap = 0 ∨ ∃ g, sa = some ⟨g, 0, none⟩) := by
    rcases h.st.own.2 with ⟨h1, h2⟩ | ⟨g, cap', cur, h1, _⟩
    · simp only [Value.slice.injEq] at h1
      exact Or.inl ⟨h1.1, by omega, by omega, h1.2.2⟩
    · simp only [Value.slice.injEq] at h1
      exact Or.inr ⟨g, h1.1⟩
  unfold maxLen at hlmax hsmax
  have hfld := fld61
  have HR := hid hr
  have HD := hid hdl
  clear h hr hrk hdl hfl hle
  generalize hm : (flat s.gs).length = m at *
  have HMm := hid hm
  generalize hN : (flat s.gs ++ s.lo).length = N at *
  have HN := hid hN
  clear hm hN
  have hmc : m ≤ lcap := by omega
  have hrk' : (r : Int) ≤ (r : Int) + (ka : Int) := by omega
  have HL : Hid (∀ w1, Below w.drew.heap.size w.drew w1 → ∀ a' cap' w2, Grew w1 w2 B 3 1 (.slice la m lcap) a' (m + ka) cap' (ints (flat s.gs) ++ ints (s.stack.drop r)) →
      w2.cell? ⟨R, 2, none⟩ = some (.slice sa (r + ka) scap) ∧ w2.cell? ⟨R, 3, none⟩ = some (.slice la N lcap) ∧ w2.frozen? ⟨R, 2, none⟩ = false ∧ w2.frozen? ⟨R, 3, none⟩ = false ∧ R < w2.heap.size ∧
      Hid (MAt B R c w0 (w2.setCell ⟨R, 3, none⟩ (.slice a' (m + ka) cap')) (grownT w1 T 3) ⟨cv, .slice sa s.stack.length scap, .slice a' (m + ka) cap', fr, da, iv, ou⟩ { s with lo := s.stack.drop r })) := by
    intro w1 hb a' cap' w2 hG
    have h1 := HA.out.drew.later hb HA.out.hB
    obtain ⟨f1, f2, f3⟩ := h1.farLo rfl hG
    exact ⟨(f1 2).trans ((hb.cell (p := ⟨R, 2, none⟩) hRl).trans c2), (f1 3).trans ((hb.cell (p := ⟨R, 3, none⟩) hRl).trans c3), f2 2, f2 3, f3, h1.setLo' (l := s.stack.drop r) rfl hG (by rw [List.length_append, HMm.out, HD.out]) (by rw [ints_append]) (by rw [HD.out]; omega)⟩
  have HQ : Hid (∀ (a' : Option Addr) (cap' : Nat) (T' : Nat → Nat) (W : World), MAt B R c w0 W T' ⟨cv, .slice sa s.stack.length scap, .slice a' (m + ka) cap', fr, da, iv, ou⟩ { s with lo := s.stack.drop r } → ∀ a2 cap2 w4, Grew W w4 B 3 1 (.slice a' (m + ka) cap') a2 (m + ka + kb) cap2 (ints (flat s.gs ++ s.stack.drop r) ++ ints (List.replicate kb 0)) →
      w4.cell? ⟨R, 2, none⟩ = some (.slice sa (r + ka) scap) ∧ w4.cell? ⟨R, 3, none⟩ = some (.slice a' (m + ka) cap') ∧ w4.frozen? ⟨R, 2, none⟩ = false ∧ w4.frozen? ⟨R, 3, none⟩ = false ∧ R < w4.heap.size ∧
      Hid (Mch B R c w0 ((w4.setCell ⟨R, 3, none⟩ (.slice a2 (m + ka + kb) cap2)).setCell ⟨R, 2, none⟩ (.slice sa r scap)) { s with lo := s.stack.drop r ++ List.replicate kb 0, stack := s.stack.take r })) := by
    intro a' cap' T' W hM a2 cap2 w4 hG
    obtain ⟨f1, f2, f3⟩ := hM.farLo rfl hG
    have h3 := hM.setLo' (l := s.stack.drop r ++ List.replicate kb 0) rfl hG (by simp only [List.length_append, HMm.out, HD.out, List.length_replicate]; omega) (by rw [← ints_append, List.append_assoc]) (by rw [List.length_append, HD.out, List.length_replicate]; omega)
    have hl : (s.stack.take r).length = r := by rw [List.length_take, HR.out]; omega
    refine ⟨by rw [f1 2, hM.cell.2.2.1, HR.out], (f1 3).trans hM.cell.2.2.2.1, f2 2, f2 3, f3, _, _, h3.setSt (x := .slice sa r scap) (l := s.stack.take r) (grown_refl _ _) ?_ (fun k hk _ => ?_) (by have := hb1; rw [HR.out] at this; rw [hl]; omega)⟩
    · have := (h3.st.cut (m := r) (by show r ≤ s.stack.length; rw [HR.out]; omega) rfl).own
      rw [Nat.mul_one, ints_take] at this
      rw [hl]
      exact this
    · exact (show Value.ownBlock (.slice sa s.stack.length scap) = Value.ownBlock (.slice sa r scap) from by cases sa <;> rfl).trans hk
  rcases HS.out with ⟨rfl, rfl, rfl, rfl⟩ | ⟨g, rfl⟩ <;> clear HS
  · skip
    have HF' := hid (fun w1 h => HF.out w1 (none) (0) 37 h (Or.inl ⟨rfl, rfl⟩))
    clear HF
    go_enter Try.func55, Try.ntmps55
    go_wp2_with fail
    refine (must_yes _ _ _ (by first | (simp; done) | (simp; omega))).mono ?_
    rintro e w' ⟨rfl, rfl⟩
    go_wp2_with fail
    refine (must_yes _ _ _ (by first | (simp; done) | (simp; omega))).mono ?_
    rintro e w' ⟨rfl, rfl⟩
    go_wp2_with fail
    go_region_law (first
      | (refine step_append_ex (by rfl) _ _ _ _ (by rfl) _ _ (by rfl) (by rfl) (HF'.out _ (HA.out.drew.later hb HA.out.hB)) ?_; intro a' cap' w2 hG; obtain ⟨g2, g3, g4, g5, g6, HM2⟩ := HL.out w1 hb a' cap' w2 hG; clear hG)
      | (refine step_call1 (by rfl) 60 _ _ (by rfl) en49 _ (by kernel_rfl) _ (HT.out _ HA.out.drew) ?_; intro w1 hb; have d2 := (hb.cell (p := ⟨R, 2, none⟩) hRl).trans c2; have d3 := (hb.cell (p := ⟨R, 3, none⟩) hRl).trans c3))
    all_goals
      go_wp2_with (at_builtin; refine wpList_append_ex rfl _ _ _ _ rfl _ _ rfl rfl (HZ.out _ _ _ a' cap' _ HM2.out rfl) ?_; intro a2 cap2 w4 hG; obtain ⟨k2, k3, k4, k5, k6, HM3⟩ := HQ.out _ _ _ _ HM2.out _ _ _ hG; clear hG)
      go_returns
      exact ⟨rfl, HM3.out⟩
  rcases Nat.lt_or_ge r scap with hrc | hrc
  · have hne : ¬ scap = r := by omega
    have HF' := hid (fun w1 h => HF.out w1 (some ⟨g, r, none⟩) (scap - r) 37 h (Or.inr (Or.inr ⟨g, rfl, rfl⟩)))
    clear HF
    go_enter Try.func55, Try.ntmps55
    go_wp2_with fail
    refine (must_yes _ _ _ (by first | (simp; done) | (simp; omega))).mono ?_
    rintro e w' ⟨rfl, rfl⟩
    go_wp2_with fail
    refine (must_yes _ _ _ (by first | (simp; done) | (simp; omega))).mono ?_
    rintro e w' ⟨rfl, rfl⟩
    go_wp2_with fail
    go_region_law (first
      | (refine step_append_ex (by rfl) _ _ _ _ (by rfl) _ _ (by rfl) (by rfl) (HF'.out _ (HA.out.drew.later hb HA.out.hB)) ?_; intro a' cap' w2 hG; obtain ⟨g2, g3, g4, g5, g6, HM2⟩ := HL.out w1 hb a' cap' w2 hG; clear hG)
      | (refine step_call1 (by rfl) 60 _ _ (by rfl) en49 _ (by kernel_rfl) _ (HT.out _ HA.out.drew) ?_; intro w1 hb; have d2 := (hb.cell (p := ⟨R, 2, none⟩) hRl).trans c2; have d3 := (hb.cell (p := ⟨R, 3, none⟩) hRl).trans c3))
    all_goals
      go_wp2_with (at_builtin; refine wpList_append_ex rfl _ _ _ _ rfl _ _ rfl rfl (HZ.out _ _ _ a' cap' _ HM2.out rfl) ?_; intro a2 cap2 w4 hG; obtain ⟨k2, k3, k4, k5, k6, HM3⟩ := HQ.out _ _ _ _ HM2.out _ _ _ hG; clear hG)
      go_returns
      exact ⟨rfl, HM3.out⟩
  · obtain rfl : ka = 0 := by omega
    obtain rfl : scap = r := by omega
    have HF' := hid (fun w1 h => HF.out w1 (some ⟨g, 0, none⟩) (0) 37 h (Or.inr (Or.inl ⟨rfl, g, rfl⟩)))
    clear HF
    go_enter Try.func55, Try.ntmps55
    go_wp2_with fail
    refine (must_yes _ _ _ (by first | (simp; done) | (simp; omega))).mono ?_
    rintro e w' ⟨rfl, rfl⟩
    go_wp2_with fail
    refine (must_yes _ _ _ (by first | (simp; done) | (simp; omega))).mono ?_
    rintro e w' ⟨rfl, rfl⟩
    go_wp2_with fail
    go_region_law (first
      | (refine step_append_ex (by rfl) _ _ _ _ (by rfl) _ _ (by rfl) (by rfl) (HF'.out _ (HA.out.drew.later hb HA.out.hB)) ?_; intro a' cap' w2 hG; obtain ⟨g2, g3, g4, g5, g6, HM2⟩ := HL.out w1 hb a' cap' w2 hG; clear hG)
      | (refine step_call1 (by rfl) 60 _ _ (by rfl) en49 _ (by kernel_rfl) _ (HT.out _ HA.out.drew) ?_; intro w1 hb; have d2 := (hb.cell (p := ⟨R, 2, none⟩) hRl).trans c2; have d3 := (hb.cell (p := ⟨R, 3, none⟩) hRl).trans c3))
    all_goals
      go_wp2_with (at_builtin; refine wpList_append_ex rfl _ _ _ _ rfl _ _ rfl rfl (HZ.out _ _ _ a' cap' _ HM2.out rfl) ?_; intro a2 cap2 w4 hG; obtain ⟨k2, k3, k4, k5, k6, HM3⟩ := HQ.out _ _ _ _ HM2.out _ _ _ hG; clear hG)
      go_returns
      exact ⟨rfl, HM3.out⟩

end Go.Proofs.Ytpahhhhfhnpmjaa
