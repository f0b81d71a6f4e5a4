/-
  The machine's return: a frame fewer.
-/
import Derived.Test.YtpahhhhfhnpmjaaOpt
import Derived.Deep.RegionLaw
import Derived.Test.YtpahhhhfhnpmjaaApp
import Derived.Shelf.Abstract
namespace Go.Proofs.Ytpahhhhfhnpmjaa
open Go.RowKit
set_option maxRecDepth 100000

/- one frame fewer: the rows of the frames and of the locals are cut, and the machine goes on where the frame tells -/
theorem MAt.cutFrame {B R : Nat} {c : Mc.Cfg} {w0 w : World} {T : Nat → Nat} {v : Vs} {s : Mc.St} {hs : List (List Int × Int)} {f : List Int × Int} {fa la : Option Addr} {fc lc : Nat} (h : MAt B R c w0 w T v s) (hgs : s.gs = hs ++ [f])
    (hf : v.fr = .slice fa (s.gs.length + 1) fc) (hl : v.lo = .slice la (flat s.gs ++ s.lo).length lc) :
    MAt B R c w0 (((w.setCell ⟨R, 4, none⟩ (.slice fa (hs.length + 1) fc)).setCell ⟨R, 3, none⟩ (.slice la (flat s.gs).length lc)).setCell ⟨R, 1, none⟩ (.int .i64 s.bk)) T { v with fr := .slice fa (hs.length + 1) fc, lo := .slice la (flat s.gs).length lc } { s with gs := hs, lo := f.1, bk := f.2, pc := s.bk } := by
  have hk : ∀ m, m ≠ 1 → ∀ k, k < w.heap.size → T k = m → (((w.setCell ⟨R, 4, none⟩ (.slice fa (hs.length + 1) fc)).setCell ⟨R, 3, none⟩ (.slice la (flat s.gs).length lc)).setCell ⟨R, 1, none⟩ (.int .i64 s.bk)).heap[k]? = w.heap[k]? := fun m hm k _ e => by
    have hne : k ≠ R := fun e' => by subst e'; exact hm (e.symm.trans h.tR)
    rw [Below.heap_setCell _ _ _ k hne, Below.heap_setCell _ _ _ k hne, Below.heap_setCell _ _ _ k hne]
  have hflat : flat hs ++ f.1 = flat s.gs := by rw [hgs, flat_snoc]
  have hlen : s.gs.length = hs.length + 1 := by rw [hgs, len_snoc]
  have hbg := h.bgs
  exact { h with
    blk := by rw [heap_set (heap_set (heap_set h.blk _) _) _]; rfl
    st := h.st.keep (hk 2 (by decide)) (fun _ _ e => e)
    lo := by
      have h1 := (h.lo.cut (m := (flat s.gs).length) (by rw [List.length_append]; omega) hl).keep (hk 3 (by decide)) (fun _ _ e => e)
      rw [Nat.mul_one, ints_take, List.take_left] at h1
      rw [hflat]
      exact h1
    fr := by
      have h1 := (h.fr.cut (m := hs.length + 1) (by omega) hf).keep (hk 4 (by decide)) (fun _ _ e => e)
      have e : (cF 0 (s.gs ++ [(s.lo, s.bk)])).take ((hs.length + 1) * 2) = cF 0 (hs ++ [f]) := by rw [← hlen, cF_take, hgs]
      rw [e] at h1
      exact h1
    da := h.da.keep (hk 5 (by decide)) (fun _ _ e => e)
    ou := h.ou.keep (hk 6 (by decide)) (fun _ _ e => e)
    below := ((h.below.setCell (p := ⟨R, 4, none⟩) h.hR _).setCell (p := ⟨R, 3, none⟩) h.hR _).setCell (p := ⟨R, 1, none⟩) h.hR _
    bgs := by show hs.length ≤ 24; omega
    bfr := fun g hg => h.bfr g (by rw [hgs]; exact List.mem_append.2 (Or.inl hg))
    blo := h.bfr f (by rw [hgs]; exact List.mem_append.2 (Or.inr (List.mem_singleton.2 rfl))) }

set_option maxHeartbeats 800000 in
theorem ret_any (B R : Nat) (c : Mc.Cfg) (w0 : World) (s : Mc.St) (w : World) (h : Mch B R c w0 w s) :
    Calls Try.prog 56 #[.pointer (some ⟨R, 0, none⟩)] w (MEnd B R c w0 (Mc.ret s) unitV) := by
  have HM : Hid (Mch B R c w0 w s) := h
  obtain ⟨T, ⟨cv, st, lo, fr, da, iv, ou⟩, h⟩ := h
  obtain ⟨g, cap, hv, hcap, hmax, hBg, hgl, hmk, hfz, hcell⟩ := h.fr.place (by omega)
  simp only at hv
  subst hv
  obtain ⟨la, lcap, hv, hlcap, hlmax⟩ := h.lo.form
  simp only at hv
  subst hv
  have HA : Hid (MAt B R c w0 w T ⟨cv, st, .slice la (flat s.gs ++ s.lo).length lcap, .slice (some ⟨g, 0, none⟩) (s.gs.length + 1) cap, da, iv, ou⟩ s) := h
  have HT : Hid (Calls Try.prog 60 #[.pointer (some ⟨R, 0, none⟩)] w fun e w' => e = .returned (.agg #[.int .i64 ((flat s.gs).length : Nat), .int .i64 s.bk]) ∧ Below w.heap.size w w') := top_any B R c w0 s w T _ h
  have hgs := h.bgs
  have hll := h.locals_le
  have hRl := h.ltR
  obtain ⟨-, c1, -, c3, c4, -, -, -, -, -, -, -, -, hf⟩ := h.cell
  simp only at c3 c4
  unfold maxLen at hmax hlmax
  clear hcell h
  cases hl : s.gs.getLast? with
  | none =>
    have HP : Hid (Mc.ret s = .stop { s with en := 6 }) := by show Mc.ret s = _; unfold Mc.ret; rw [hl]; rfl
    have h0 : s.gs.length = 0 := by rw [List.getLast?_eq_none_iff.1 hl]; rfl
    rw [h0] at c4
    clear hl h0 HA HT
    go_enter Try.func56, Try.ntmps56
    go_wp2_with fail
    refine (broken_any _ _ (by first | rfl | (simp; done) | (simp; omega)) HM.out).mono ?_
    rintro e w2 ⟨rfl, hm⟩
    go_wp2_with fail
    exact ⟨rfl, MEnd.stop HP.out rfl hm⟩
  | some f =>
    have HP : Hid (Mc.ret s = .ok () { s with gs := s.gs.dropLast, lo := f.1, bk := f.2, pc := s.bk }) := by show Mc.ret s = _; unfold Mc.ret; rw [hl]
    have HG : Hid (s.gs = s.gs.dropLast ++ [f]) := by
      show s.gs = _
      obtain ⟨ys, e⟩ := List.getLast?_eq_some_iff.1 hl
      rw [e, List.dropLast_concat]
    generalize hk : s.gs.dropLast.length = k at *
    have hk1 : s.gs.length = k + 1 := by rw [HG.out, len_snoc, hk]
    have HK := hid hk
    have HK1 := hid hk1
    rw [hk1] at c4 hcap hgs
    generalize hm : (flat s.gs).length = m at *
    have HMm := hid hm
    have hn : (flat s.gs ++ s.lo).length = m + s.lo.length := by rw [List.length_append, hm]
    rw [hn] at c3 hlcap hll
    generalize s.lo.length = n at *
    have HN := hid hn
    clear hl hk hk1 hm hn
    go_enter Try.func56, Try.ntmps56
    go_wp2_with fail
    refine (must_yes _ _ _ (by first | (simp; done) | (simp; omega))).mono ?_
    rintro e w' ⟨rfl, rfl⟩
    go_wp2_with fail
    refine HT.out.mono ?_
    rintro e w1 ⟨rfl, hb⟩
    have d1 := (hb.cell (p := ⟨R, 1, none⟩) hRl).trans c1
    have d3 := (hb.cell (p := ⟨R, 3, none⟩) hRl).trans c3
    have d4 := (hb.cell (p := ⟨R, 4, none⟩) hRl).trans c4
    have e1 := (hb.frozen (p := ⟨R, 1, none⟩) hRl).trans (hf 1)
    have e3 := (hb.frozen (p := ⟨R, 3, none⟩) hRl).trans (hf 3)
    have e4 := (hb.frozen (p := ⟨R, 4, none⟩) hRl).trans (hf 4)
    have hz := hb.size
    have hR1 : R < w1.heap.size := by omega
    have hne := (Nat.ne_of_lt hR1)
    go_wp2_with fail
    go_region
    go_wp2_with fail
    go_region
    go_wp2_with fail
    go_returns
    have h1 := (HA.out.later hb HA.out.hB).cutFrame HG.out rfl rfl
    rw [HK.out, HMm.out] at h1
    exact MEnd.ok HP.out rfl ⟨_, _, ((h1.alloc _).drew).drew⟩

end Go.Proofs.Ytpahhhhfhnpmjaa

namespace Go.Proofs.Ytpahhhhfhnpmjaa
open Go.RowKit Go.Shelf
set_option maxRecDepth 100000

section
variable {P : Program} {ops : Array Oper} {o : Oper} {a : Act} {w : World} {K : Act → World → Prop} {Q : Exit → Act → World → Prop} {E : Prop}
theorem run_call1 (f : FuncId) (x : Operand) (ty : TypeId) (ho : o.op = .call { callee := .value (.func f), args := #[x], argTypes := #[ty] })
    (hen : Enters P f) (v : Value) (hx : a.eval x = v) : (execOp a.eval o).run P w = .ok (.enter f #[v]) w := by
  have h := hen #[v] w
  have hf : a.eval (.func f) = .func (.func f) #[] #[] := rfl
  simp [execOp, ho, resolve, invoke, hx, hf, h, Deferred.ofValue]
theorem step_call1 (hgd : o.guard = none) (f : FuncId) (x : Operand) (ty : TypeId) (ho : o.op = .call { callee := .value (.func f), args := #[x], argTypes := #[ty] })
    (hen : Enters P f) (v : Value) (hx : a.eval x = v) (u : Value) {R : World → Prop} (hC : Calls P f #[v] w fun e w' => e = .returned u ∧ R w')
    (h : ∀ w', R w' → K (a.put o.dst u) w') : if Region.wanted o (yielded ops a.tmps) = true then Oper.wp P o a w K Q else E := by
  have hw : Region.wanted o (yielded ops a.tmps) = true := by simp [Region.wanted, hgd]
  rw [if_pos hw]
  unfold Oper.wp
  rw [run_call1 f x ty ho hen v hx, Oper.upon_enter]
  refine hC.mono ?_
  rintro e w' ⟨rfl, hR⟩
  exact h w' hR
end
theorem en49 : Enters Try.prog 60 := enters_of Try.func60 (by kernel_rfl) rfl
theorem int3 : Try.prog.underlying 3 = some (.int .i64) := Try.underlying3

/- the locals are those that were on the stack -/
theorem MAt.setLo' {B R : Nat} {c : Mc.Cfg} {w0 w w2 : World} {T : Nat → Nat} {v : Vs} {s : Mc.St} {la a' : Option Addr} {m lcap n' cap' : Nat} {l : List Int} {xs' : List Value} (h : MAt B R c w0 w T v s) {N : Nat} (hv : v.lo = .slice la N lcap)
    (hG : Grew w w2 B 3 1 (.slice la m lcap) a' n' cap' xs') (hn : n' = (flat s.gs ++ l).length) (hxs : xs' = ints (flat s.gs ++ l)) (hl : l.length ≤ 2048) :
    MAt B R c w0 (w2.setCell ⟨R, 3, none⟩ (.slice a' n' cap')) (grownT w T 3) { v with lo := .slice a' n' cap' } { s with lo := l } := by
  have e : v.lo.ownBlock = Value.ownBlock (.slice la m lcap) := by rw [hv]; cases la <;> rfl
  subst hn; subst hxs
  exact h.setLo (by rw [e]; exact hG.grown) hG.own (fun k hk hlt => by rw [e]; exact hG.lies k hk hlt) hl

theorem MAt.farLo {B R : Nat} {c : Mc.Cfg} {w0 w w2 : World} {T : Nat → Nat} {v : Vs} {s : Mc.St} {la a' : Option Addr} {m lcap n' cap' N : Nat} {xs' : List Value} (h : MAt B R c w0 w T v s) (hv : v.lo = .slice la N lcap)
    (hG : Grew w w2 B 3 1 (.slice la m lcap) a' n' cap' xs') : (∀ j, w2.cell? ⟨R, j, none⟩ = w.cell? ⟨R, j, none⟩) ∧ (∀ j, w2.frozen? ⟨R, j, none⟩ = false) ∧ R < w2.heap.size := by
  have e : v.lo.ownBlock = Value.ownBlock (.slice la m lcap) := by rw [hv]; cases la <;> rfl
  exact h.far (fun k hk => h.lo.mark k (by rw [e]; exact hk)) (by decide) hG.grown

set_option maxHeartbeats 1600000 in
theorem enter_ok (B R : Nat) (c : Mc.Cfg) (w0 : World) (s : Mc.St) (ka kb : Nat) (w : World) (h : Mch B R c w0 w s) (hab : ka + kb ≤ 2048) (hle : ka ≤ s.stack.length) :
    Calls Try.prog 55 #[.pointer (some ⟨R, 0, none⟩), .int .i64 ka, .int .i64 kb] w fun e w' => e = .returned (.tuple #[]) ∧ Mch B R c w0 w' { s with lo := s.stack.drop (s.stack.length - ka) ++ List.replicate kb 0, stack := s.stack.take (s.stack.length - ka) } := by
  obtain ⟨i0, hi, hz0, hz1, hz2⟩ := info_parts info3
  obtain ⟨T, ⟨cv, st, lo, fr, da, iv, ou⟩, h⟩ := h
  obtain ⟨la, lcap, hv, hlcap, hlmax⟩ := h.lo.form
  simp only at hv
  subst hv
  obtain ⟨r, hr⟩ : ∃ r, s.stack.length = r + ka := ⟨s.stack.length - ka, by omega⟩
  have hrk : s.stack.length - ka = r := by omega
  rw [hrk]
  have hlm := h.locals_le
  have hb1 := h.bst
  have hRl := h.ltR
  have hfl := flat_len s.gs h.bfr
  have hml : (flat s.gs).length ≤ (flat s.gs ++ s.lo).length := by rw [List.length_append]; omega
  have hdl : (s.stack.drop r).length = ka := by rw [List.length_drop]; omega
  obtain ⟨sa, scap, hv, hscap, hsmax⟩ := h.st.form
  simp only at hv
  subst hv
  have HA : Hid (MAt B R c w0 w T ⟨cv, .slice sa s.stack.length scap, .slice la (flat s.gs ++ s.lo).length lcap, fr, da, iv, ou⟩ s) := h
  have HT : Hid (∀ w, MAt B R c w0 w T ⟨cv, .slice sa s.stack.length scap, .slice la (flat s.gs ++ s.lo).length lcap, fr, da, iv, ou⟩ s → Calls Try.prog 60 #[.pointer (some ⟨R, 0, none⟩)] w fun e w' => e = .returned (.agg #[.int .i64 ((flat s.gs).length : Nat), .int .i64 s.bk]) ∧ Below w.heap.size w w') := fun w h => top_any B R c w0 s w T _ h
  have HF : Hid (∀ (w1 : World) (xa : Option Addr) (xc : Nat) (ty : TypeId), MAt B R c w0 w1 T ⟨cv, .slice sa s.stack.length scap, .slice la (flat s.gs ++ s.lo).length lcap, fr, da, iv, ou⟩ s → ((xa = none ∧ ka = 0) ∨ (ka = 0 ∧ ∃ g, xa = some ⟨g, 0, none⟩) ∨ ∃ g, sa = some ⟨g, 0, none⟩ ∧ xa = some ⟨g, r, none⟩) →
      ∃ a' cap' w', (Builtin.append_ #[37, 37] ty #[.slice la (flat s.gs).length lcap, .slice xa ka xc]).run Try.prog w1 = .ok (.slice a' ((flat s.gs).length + ka) cap') w' ∧ Grew w1 w' B 3 1 (.slice la (flat s.gs).length lcap) a' ((flat s.gs).length + ka) cap' (ints (flat s.gs) ++ ints (s.stack.drop r))) := fun w1 xa xc ty hm hx => by
    have hcut := (hm.lo.cut (m := (flat s.gs).length) hml rfl).own
    rw [Nat.mul_one, ints_take, List.take_left] at hcut
    refine run_append_form w1 B 37 ty 3 i0 _ 1 8 Try.underlying37 hi hz0 hz1 hz2 rfl (by omega) _ _ _ hcut xa ka xc (ints (s.stack.drop r)) (by rw [ints_length, hdl, Nat.mul_one]) ?_ (ints_one _) (by unfold maxLen; omega) (by omega) hm.hB
    rcases hx with hx | ⟨hk, g, hx⟩ | ⟨g, hs, hx⟩
    · exact Or.inl hx
    · refine Or.inr ⟨_, hx, fun j u hj => ?_⟩
      rw [List.eq_nil_of_length_eq_zero (hdl.trans hk)] at hj
      simp [ints] at hj
    · refine Or.inr ⟨_, hx, fun j u hj => ?_⟩
      have hlen : 0 < s.stack.length := by
        have : j < (ints (s.stack.drop r)).length := by
          rcases Nat.lt_or_ge j (ints (s.stack.drop r)).length with h | h
          · exact h
          · rw [List.getElem?_eq_none h] at hj; cases hj
        rw [ints_length, List.length_drop] at this
        omega
      obtain ⟨g', cap', hv', _, _, _, _, _, _, hcell⟩ := hm.st.place hlen
      simp only [hs, Value.slice.injEq] at hv'
      have hg : g = g' := by simpa using hv'.1
      subst hg
      have := hcell (r + j) u (by
        rw [← hj]
        simp [ints, List.getElem?_drop])
      rw [show (⟨g, r, none⟩ : Addr).add j = ⟨g, r + j, none⟩ from by unfold Addr.add; split <;> simp_all]
      exact this
  have HZ : Hid (∀ (w1 : World) (T' : Nat → Nat) (v' : Vs) (a' : Option Addr) (cap' : Nat) (ty : TypeId), MAt B R c w0 w1 T' v' { s with lo := s.stack.drop r } → v'.lo = .slice a' ((flat s.gs).length + ka) cap' →
      ∃ a2 cap2 w', (Builtin.append_ #[37, 3] ty #[.slice a' ((flat s.gs).length + ka) cap', .int .i64 kb]).run Try.prog w1 = .ok (.slice a2 ((flat s.gs).length + ka + kb) cap2) w' ∧ Grew w1 w' B 3 1 (.slice a' ((flat s.gs).length + ka) cap') a2 ((flat s.gs).length + ka + kb) cap2 (ints (flat s.gs ++ s.stack.drop r) ++ ints (List.replicate kb 0))) := fun w1 T' v' a' cap' ty hm hv => by
    have ho := hm.lo.own
    rw [hv] at ho
    simp only [List.length_append, hdl] at ho
    exact run_append_zeros w1 B 37 3 ty 3 i0 .i64 Try.underlying37 int3 hi hz0 hz1 hz2 _ _ _ ho kb (by omega) hm.hB
  obtain ⟨-, -, c2, c3, -, -, -, -, -, -, -, -, -, hf⟩ := h.cell
  simp only at c2 c3
  rw [hr] at c2 hscap
  have HS : Hid (sa = none ∧ r = 0 ∧ ka = 0 ∧ scap = 0 ∨ ∃ g, sa = some ⟨g, 0, none⟩) := by
    rcases h.st.own.2 with ⟨h1, h2⟩ | ⟨g, cap', cur, h1, _⟩
    · simp only [Value.slice.injEq] at h1
      exact Or.inl ⟨h1.1, by omega, by omega, h1.2.2⟩
    · simp only [Value.slice.injEq] at h1
      exact Or.inr ⟨g, h1.1⟩
  unfold maxLen at hlmax hsmax
  have hfld := fld61
  have HR := hid hr
  have HD := hid hdl
  clear h hr hrk hdl hfl hle
  generalize hm : (flat s.gs).length = m at *
  have HMm := hid hm
  generalize hN : (flat s.gs ++ s.lo).length = N at *
  have HN := hid hN
  clear hm hN
  have hmc : m ≤ lcap := by omega
  have hrk' : (r : Int) ≤ (r : Int) + (ka : Int) := by omega
  have HL : Hid (∀ w1, Below w.drew.heap.size w.drew w1 → ∀ a' cap' w2, Grew w1 w2 B 3 1 (.slice la m lcap) a' (m + ka) cap' (ints (flat s.gs) ++ ints (s.stack.drop r)) →
      w2.cell? ⟨R, 2, none⟩ = some (.slice sa (r + ka) scap) ∧ w2.cell? ⟨R, 3, none⟩ = some (.slice la N lcap) ∧ w2.frozen? ⟨R, 2, none⟩ = false ∧ w2.frozen? ⟨R, 3, none⟩ = false ∧ R < w2.heap.size ∧
      Hid (MAt B R c w0 (w2.setCell ⟨R, 3, none⟩ (.slice a' (m + ka) cap')) (grownT w1 T 3) ⟨cv, .slice sa s.stack.length scap, .slice a' (m + ka) cap', fr, da, iv, ou⟩ { s with lo := s.stack.drop r })) := by
    intro w1 hb a' cap' w2 hG
    have h1 := HA.out.drew.later hb HA.out.hB
    obtain ⟨f1, f2, f3⟩ := h1.farLo rfl hG
    exact ⟨(f1 2).trans ((hb.cell (p := ⟨R, 2, none⟩) hRl).trans c2), (f1 3).trans ((hb.cell (p := ⟨R, 3, none⟩) hRl).trans c3), f2 2, f2 3, f3, h1.setLo' (l := s.stack.drop r) rfl hG (by rw [List.length_append, HMm.out, HD.out]) (by rw [ints_append]) (by rw [HD.out]; omega)⟩
  have HQ : Hid (∀ (a' : Option Addr) (cap' : Nat) (T' : Nat → Nat) (W : World), MAt B R c w0 W T' ⟨cv, .slice sa s.stack.length scap, .slice a' (m + ka) cap', fr, da, iv, ou⟩ { s with lo := s.stack.drop r } → ∀ a2 cap2 w4, Grew W w4 B 3 1 (.slice a' (m + ka) cap') a2 (m + ka + kb) cap2 (ints (flat s.gs ++ s.stack.drop r) ++ ints (List.replicate kb 0)) →
      w4.cell? ⟨R, 2, none⟩ = some (.slice sa (r + ka) scap) ∧ w4.cell? ⟨R, 3, none⟩ = some (.slice a' (m + ka) cap') ∧ w4.frozen? ⟨R, 2, none⟩ = false ∧ w4.frozen? ⟨R, 3, none⟩ = false ∧ R < w4.heap.size ∧
      Hid (Mch B R c w0 ((w4.setCell ⟨R, 3, none⟩ (.slice a2 (m + ka + kb) cap2)).setCell ⟨R, 2, none⟩ (.slice sa r scap)) { s with lo := s.stack.drop r ++ List.replicate kb 0, stack := s.stack.take r })) := by
    intro a' cap' T' W hM a2 cap2 w4 hG
    obtain ⟨f1, f2, f3⟩ := hM.farLo rfl hG
    have h3 := hM.setLo' (l := s.stack.drop r ++ List.replicate kb 0) rfl hG (by simp only [List.length_append, HMm.out, HD.out, List.length_replicate]; omega) (by rw [← ints_append, List.append_assoc]) (by rw [List.length_append, HD.out, List.length_replicate]; omega)
    have hl : (s.stack.take r).length = r := by rw [List.length_take, HR.out]; omega
    refine ⟨by rw [f1 2, hM.cell.2.2.1, HR.out], (f1 3).trans hM.cell.2.2.2.1, f2 2, f2 3, f3, _, _, h3.setSt (x := .slice sa r scap) (l := s.stack.take r) (grown_refl _ _) ?_ (fun k hk _ => ?_) (by have := hb1; rw [HR.out] at this; rw [hl]; omega)⟩
    · have := (h3.st.cut (m := r) (by show r ≤ s.stack.length; rw [HR.out]; omega) rfl).own
      rw [Nat.mul_one, ints_take] at this
      rw [hl]
      exact this
    · exact (show Value.ownBlock (.slice sa s.stack.length scap) = Value.ownBlock (.slice sa r scap) from by cases sa <;> rfl).trans hk
  rcases HS.out with ⟨rfl, rfl, rfl, rfl⟩ | ⟨g, rfl⟩ <;> clear HS
  · skip
    have HF' := hid (fun w1 h => HF.out w1 (none) (0) 37 h (Or.inl ⟨rfl, rfl⟩))
    clear HF
    go_enter Try.func55, Try.ntmps55
    go_wp2_with fail
    refine (must_yes _ _ _ (by first | (simp; done) | (simp; omega))).mono ?_
    rintro e w' ⟨rfl, rfl⟩
    go_wp2_with fail
    refine (must_yes _ _ _ (by first | (simp; done) | (simp; omega))).mono ?_
    rintro e w' ⟨rfl, rfl⟩
    go_wp2_with fail
    go_region_law (first
      | (refine step_append_ex (by rfl) _ _ _ _ (by rfl) _ _ (by rfl) (by rfl) (HF'.out _ (HA.out.drew.later hb HA.out.hB)) ?_; intro a' cap' w2 hG; obtain ⟨g2, g3, g4, g5, g6, HM2⟩ := HL.out w1 hb a' cap' w2 hG; clear hG)
      | (refine step_call1 (by rfl) 60 _ _ (by rfl) en49 _ (by kernel_rfl) _ (HT.out _ HA.out.drew) ?_; intro w1 hb; have d2 := (hb.cell (p := ⟨R, 2, none⟩) hRl).trans c2; have d3 := (hb.cell (p := ⟨R, 3, none⟩) hRl).trans c3))
    all_goals
      go_wp2_with (at_builtin; refine wpList_append_ex rfl _ _ _ _ rfl _ _ rfl rfl (HZ.out _ _ _ a' cap' _ HM2.out rfl) ?_; intro a2 cap2 w4 hG; obtain ⟨k2, k3, k4, k5, k6, HM3⟩ := HQ.out _ _ _ _ HM2.out _ _ _ hG; clear hG)
      go_returns
      exact ⟨rfl, HM3.out⟩
  rcases Nat.lt_or_ge r scap with hrc | hrc
  · have hne : ¬ scap = r := by omega
    have HF' := hid (fun w1 h => HF.out w1 (some ⟨g, r, none⟩) (scap - r) 37 h (Or.inr (Or.inr ⟨g, rfl, rfl⟩)))
    clear HF
    go_enter Try.func55, Try.ntmps55
    go_wp2_with fail
    refine (must_yes _ _ _ (by first | (simp; done) | (simp; omega))).mono ?_
    rintro e w' ⟨rfl, rfl⟩
    go_wp2_with fail
    refine (must_yes _ _ _ (by first | (simp; done) | (simp; omega))).mono ?_
    rintro e w' ⟨rfl, rfl⟩
    go_wp2_with fail
    go_region_law (first
      | (refine step_append_ex (by rfl) _ _ _ _ (by rfl) _ _ (by rfl) (by rfl) (HF'.out _ (HA.out.drew.later hb HA.out.hB)) ?_; intro a' cap' w2 hG; obtain ⟨g2, g3, g4, g5, g6, HM2⟩ := HL.out w1 hb a' cap' w2 hG; clear hG)
      | (refine step_call1 (by rfl) 60 _ _ (by rfl) en49 _ (by kernel_rfl) _ (HT.out _ HA.out.drew) ?_; intro w1 hb; have d2 := (hb.cell (p := ⟨R, 2, none⟩) hRl).trans c2; have d3 := (hb.cell (p := ⟨R, 3, none⟩) hRl).trans c3))
    all_goals
      go_wp2_with (at_builtin; refine wpList_append_ex rfl _ _ _ _ rfl _ _ rfl rfl (HZ.out _ _ _ a' cap' _ HM2.out rfl) ?_; intro a2 cap2 w4 hG; obtain ⟨k2, k3, k4, k5, k6, HM3⟩ := HQ.out _ _ _ _ HM2.out _ _ _ hG; clear hG)
      go_returns
      exact ⟨rfl, HM3.out⟩
  · obtain rfl : ka = 0 := by omega
    obtain rfl : scap = r := by omega
    have HF' := hid (fun w1 h => HF.out w1 (some ⟨g, 0, none⟩) (0) 37 h (Or.inr (Or.inl ⟨rfl, g, rfl⟩)))
    clear HF
    go_enter Try.func55, Try.ntmps55
    go_wp2_with fail
    refine (must_yes _ _ _ (by first | (simp; done) | (simp; omega))).mono ?_
    rintro e w' ⟨rfl, rfl⟩
    go_wp2_with fail
    refine (must_yes _ _ _ (by first | (simp; done) | (simp; omega))).mono ?_
    rintro e w' ⟨rfl, rfl⟩
    go_wp2_with fail
    go_region_law (first
      | (refine step_append_ex (by rfl) _ _ _ _ (by rfl) _ _ (by rfl) (by rfl) (HF'.out _ (HA.out.drew.later hb HA.out.hB)) ?_; intro a' cap' w2 hG; obtain ⟨g2, g3, g4, g5, g6, HM2⟩ := HL.out w1 hb a' cap' w2 hG; clear hG)
      | (refine step_call1 (by rfl) 60 _ _ (by rfl) en49 _ (by kernel_rfl) _ (HT.out _ HA.out.drew) ?_; intro w1 hb; have d2 := (hb.cell (p := ⟨R, 2, none⟩) hRl).trans c2; have d3 := (hb.cell (p := ⟨R, 3, none⟩) hRl).trans c3))
    all_goals
      go_wp2_with (at_builtin; refine wpList_append_ex rfl _ _ _ _ rfl _ _ rfl rfl (HZ.out _ _ _ a' cap' _ HM2.out rfl) ?_; intro a2 cap2 w4 hG; obtain ⟨k2, k3, k4, k5, k6, HM3⟩ := HQ.out _ _ _ _ HM2.out _ _ _ hG; clear hG)
      go_returns
      exact ⟨rfl, HM3.out⟩

end Go.Proofs.Ytpahhhhfhnpmjaa

namespace Go.Proofs.Ytpahhhhfhnpmjaa
open Go.RowKit Go.Shelf
set_option maxRecDepth 100000

set_option maxHeartbeats 400000 in
theorem enter_any (B R : Nat) (c : Mc.Cfg) (w0 : World) (s : Mc.St) (a b : Int) (w : World) (h : Mch B R c w0 w s) (ha : fit64 a) (hb : fit64 b) :
    Calls Try.prog 55 #[.pointer (some ⟨R, 0, none⟩), .int .i64 a, .int .i64 b] w (MEnd B R c w0 (Mc.enter a b s) unitV) := by
  obtain ⟨ha0, ha1⟩ := ha
  obtain ⟨hb0, hb1⟩ := hb
  have HM : Hid (Mch B R c w0 w s) := h
  by_cases hab : 0 ≤ a ∧ 0 ≤ b ∧ b ≤ 2048 - a
  · by_cases hle : a ≤ s.stack.length
    · have HP : Mc.enter a b s = .ok () { s with lo := s.stack.drop (s.stack.length - a.toNat) ++ List.replicate b.toNat 0, stack := s.stack.take (s.stack.length - a.toNat) } := (if_pos hab).trans (if_pos hle)
      obtain ⟨h0, h1, h2⟩ := hab
      obtain ⟨ka, rfl⟩ := Int.eq_ofNat_of_zero_le h0
      obtain ⟨kb, rfl⟩ := Int.eq_ofNat_of_zero_le h1
      refine (enter_ok B R c w0 s ka kb w h (by omega) (by omega)).mono ?_
      rintro e w' ⟨rfl, hm⟩
      exact MEnd.ok HP rfl (by simpa only [Int.toNat_natCast] using hm)
    · have HP : Hid (Mc.enter a b s = .stop { s with en := 6 }) := (if_pos hab).trans (if_neg hle)
      obtain ⟨h0, h1, h2⟩ := hab
      obtain ⟨T, ⟨cv, st, lo, fr, da, iv, ou⟩, h⟩ := h
      obtain ⟨sa, scap, hv, hscap, hsmax⟩ := h.st.form
      simp only at hv
      subst hv
      have c2 := h.cell.2.2.1
      have hbs := h.bst
      simp only at c2
      clear h
      generalize s.stack.length = n at *
      go_enter Try.func55, Try.ntmps55
      go_wp2_with fail
      refine (must_yes _ _ _ (by first | (simp; done) | (simp; omega))).mono ?_
      rintro e w' ⟨rfl, rfl⟩
      go_wp2_with fail
      refine (broken_any _ _ (by first | (simp; done) | (simp; omega)) HM.out).mono ?_
      rintro e w2 ⟨rfl, hm⟩
      go_wp2_with fail
      exact ⟨rfl, MEnd.stop HP.out rfl hm⟩
  · have HP : Hid (Mc.enter a b s = .stop { s with en := 6 }) := if_neg hab
    clear h
    by_cases h0 : 0 ≤ a
    · by_cases h1 : 0 ≤ b
      · have h2 : ¬ b ≤ 2048 - a := fun h => hab ⟨h0, h1, h⟩
        clear hab
        go_enter Try.func55, Try.ntmps55
        go_wp2_with fail
        refine (broken_any _ _ (by first | (simp; done) | (simp; omega)) HM.out).mono ?_
        rintro e w2 ⟨rfl, hm⟩
        go_wp2_with fail
        exact ⟨rfl, MEnd.stop HP.out rfl hm⟩
      · clear hab
        go_enter Try.func55, Try.ntmps55
        go_wp2_with fail
        refine (broken_any _ _ (by first | (simp; done) | (simp; omega)) HM.out).mono ?_
        rintro e w2 ⟨rfl, hm⟩
        go_wp2_with fail
        exact ⟨rfl, MEnd.stop HP.out rfl hm⟩
    · clear hab
      go_enter Try.func55, Try.ntmps55
      go_wp2_with fail
      refine (broken_any _ _ (by first | (simp; done) | (simp; omega)) HM.out).mono ?_
      rintro e w2 ⟨rfl, hm⟩
      go_wp2_with fail
      exact ⟨rfl, MEnd.stop HP.out rfl hm⟩

theorem Mch.alloc {B R : Nat} {c : Mc.Cfg} {w0 w : World} {s : Mc.St} (h : Mch B R c w0 w s) (o : Obj) : Mch B R c w0 (w.alloc o) s := by
  obtain ⟨T, v, h⟩ := h
  exact ⟨T, v, h.alloc o⟩
theorem Mch.drew {B R : Nat} {c : Mc.Cfg} {w0 w : World} {s : Mc.St} (h : Mch B R c w0 w s) : Mch B R c w0 w.drew s := by
  obtain ⟨T, v, h⟩ := h
  exact ⟨T, v, h.drew⟩

section
variable {P : Program} {ops : Array Oper} {o : Oper} {a : Act} {w : World} {K : Act → World → Prop} {Q : Exit → Act → World → Prop} {E : Prop}
theorem run_callN (f : FuncId) (xs : Array Operand) (tys : Array TypeId) (ho : o.op = .call { callee := .value (.func f), args := xs, argTypes := tys })
    (hen : Enters P f) (vs : Array Value) (hx : xs.map a.eval = vs) : (execOp a.eval o).run P w = .ok (.enter f vs) w := by
  have h := hen vs w
  have hf : a.eval (.func f) = .func (.func f) #[] #[] := rfl
  simp [execOp, ho, resolve, invoke, hx, hf, h, Deferred.ofValue]
theorem step_callE (hgd : o.guard = none) (f : FuncId) (xs : Array Operand) (tys : Array TypeId) (ho : o.op = .call { callee := .value (.func f), args := xs, argTypes := tys })
    (hen : Enters P f) (vs : Array Value) (hx : xs.map a.eval = vs) {C : Ending → World → Prop} (hC : Calls P f vs w C)
    (h3 : ∀ w', ¬ C .outgrown w') (h2 : ∀ c w', C (.panicked c) w' → Q (.panic c) a w') (h1 : ∀ v w', C (.returned v) w' → K (a.put o.dst v) w') : if Region.wanted o (yielded ops a.tmps) = true then Oper.wp P o a w K Q else E := by
  have hw : Region.wanted o (yielded ops a.tmps) = true := by simp [Region.wanted, hgd]
  rw [if_pos hw]
  unfold Oper.wp
  rw [run_callN f xs tys ho hen vs hx, Oper.upon_enter]
  refine hC.mono ?_
  intro e w' he
  cases e with
  | returned v => exact h1 v w' he
  | panicked c => exact h2 c w' he
  | outgrown => exact absurd he (h3 w')
end
theorem wpOp_callE {P : Program} {ops : Array Oper} {a : Act} {w : World} {K : Act → World → Prop} {Q : Exit → Act → World → Prop} {i : Nat} {o : Oper} (hi : ops[i]? = some o) (hgd : o.guard = none) (f : FuncId) (xs : Array Operand) (tys : Array TypeId) (ho : o.op = .call { callee := .value (.func f), args := xs, argTypes := tys })
    (hen : Enters P f) (vs : Array Value) (hx : xs.map a.eval = vs) {C : Ending → World → Prop} (hC : Calls P f vs w C)
    (h3 : ∀ w', ¬ C .outgrown w') (h2 : ∀ c w', C (.panicked c) w' → Q (.panic c) a w') (h1 : ∀ v w', C (.returned v) w' → K (a.put o.dst v) w') : wpOp P ops Q i K a w := by
  have hw : Region.wanted o (yielded ops a.tmps) = true := by simp [Region.wanted, hgd]
  have h := step_callE (ops := ops) (E := True) hgd f xs tys ho hen vs hx hC h3 h2 h1
  rw [if_pos hw] at h
  unfold wpOp
  rw [hi]
  simp only [hw, if_true]
  exact Or.inl h
theorem MEnd.noOut {α : Type} {B R : Nat} {c : Mc.Cfg} {w0 w' : World} {r : Mc.Res α} {rep : α → Value} : ¬ MEnd B R c w0 r rep .outgrown w' := by
  intro h; cases r with
  | ok a s => cases h.1
  | stop s => cases h.1
theorem MEnd.ret {α : Type} {B R : Nat} {c : Mc.Cfg} {w0 w' : World} {r : Mc.Res α} {rep : α → Value} {v : Value} (h : MEnd B R c w0 r rep (.returned v) w') : ∃ a s, Hid (r = .ok a s) ∧ v = rep a ∧ Hid (Mch B R c w0 w' s) := by
  cases r with
  | ok a s => exact ⟨a, s, rfl, by cases h.1; rfl, h.2⟩
  | stop s => cases h.1
theorem MEnd.pan {α : Type} {B R : Nat} {c : Mc.Cfg} {w0 w' : World} {r : Mc.Res α} {rep : α → Value} {ch : List PanicEntry} (h : MEnd B R c w0 r rep (.panicked ch) w') : ∃ s, Hid (r = .stop s) ∧ ch = thrown s.en ∧ Hid (Mch B R c w0 w' s) := by
  cases r with
  | ok a s => cases h.1
  | stop s => exact ⟨s, rfl, by cases h.1; rfl, h.2⟩
theorem en35 : Enters Try.prog 47 := enters_of Try.func47 (by kernel_rfl) rfl
theorem en36 : Enters Try.prog 48 := enters_of Try.func48 (by kernel_rfl) rfl
theorem en37 : Enters Try.prog 49 := enters_of Try.func49 (by kernel_rfl) rfl
theorem en38 : Enters Try.prog 50 := enters_of Try.func50 (by kernel_rfl) rfl
theorem en39 : Enters Try.prog 51 := enters_of Try.func51 (by kernel_rfl) rfl

end Go.Proofs.Ytpahhhhfhnpmjaa
