/-
  The reference's machine enters: the top frame's locals, taken from the stack, and noughts behind them.
-/
import Derived.Test.YtljdoholcdhkhaaGx
import Derived.Test.YtljdoholcdhkhaaApp
import Derived.Deep.RegionLaw
import Derived.Deep.DeepCutAuto
namespace Go.Proofs.Ytljdoholcdhkhaa
open Go.RowKit Go.Shelf
set_option maxRecDepth 100000

set_option maxHeartbeats 800000 in
theorem genter_no (B R : Nat) (mt : Int) (w0 : World) (F : Value × Option (Nat × Obj)) (L : List Value) (g : Rg.G) (p : Value) (a b : Int) (w : World) (h : Gch B R mt w0 F L w g)
    (hc : a < 0 ∨ b < 0 ∨ 2048 < a ∨ 2048 < b ∨ 2048 < a + b ∨ (g.s.stack.length : Int) < a) :
    Calls Try.prog 31 #[.pointer (some ⟨R, 0, none⟩), p, .int .i64 a, .int .i64 b] w (GEnd B R mt w0 F L (.tuple #[]) (Rg.stop 6 g)) := by
  have HS : Hid (∀ W, Gch B R mt w0 F L W g → Calls Try.prog 19 #[.pointer (some ⟨R, 0, none⟩), .int .i64 6] W (GEnd B R mt w0 F L (.tuple #[]) (Rg.stop 6 g))) := fun W hW => gstop_any B R mt w0 F L g 6 W hW
  obtain ⟨T, ⟨st, fr, da, iv, ou, lv, bx⟩, h, hF, hL⟩ := h
  obtain ⟨sa, cap, hv, hcap, hmax⟩ := h.st.form
  simp only at hv
  subst hv
  have HM : Hid (GAt B R mt w0 w T ⟨.slice sa g.s.stack.length cap, fr, da, iv, ou, lv, bx⟩ g) := h
  obtain ⟨-, c1, -, -, -, -, -, -, -, -, -⟩ := h.cell
  simp only at c1
  have hbst := h.bst
  have hRl := h.ltR
  clear h hmax hcap
  generalize g.s.stack.length = n at *
  have hc' : a < 0 ∨ (0 ≤ a ∧ b < 0) ∨ (0 ≤ a ∧ 0 ≤ b ∧ 2048 < a) ∨ (0 ≤ a ∧ 0 ≤ b ∧ a ≤ 2048 ∧ 2048 < b) ∨ (0 ≤ a ∧ 0 ≤ b ∧ a ≤ 2048 ∧ b ≤ 2048 ∧ 2048 < a + b) ∨ (0 ≤ a ∧ 0 ≤ b ∧ a ≤ 2048 ∧ b ≤ 2048 ∧ a + b ≤ 2048 ∧ (n : Int) < a) := by omega
  clear hc
  rcases hc' with h0 | ⟨h0, h1⟩ | ⟨h0, h1, h2⟩ | ⟨h0, h1, h2, h3⟩ | ⟨h0, h1, h2, h3, h4⟩ | ⟨h0, h1, h2, h3, h4, h5⟩
  all_goals
    go_enter Try.func31, Try.ntmps31
    go_wp2_with fail
    refine (HS.out _ ⟨T, _, HM.out, hF, hL⟩).mono ?_
    rintro e w1 ⟨rfl, H1⟩
    have H1 := hid H1
    go_wp2_with fail
    go_end0
    exact ⟨rfl, H1.out⟩

def EnAt (B R : Nat) (mt : Int) (w0 : World) (F : Value × Option (Nat × Obj)) (sv : Value) (g : Rg.G) (W : World) : Prop := ∃ T v, GAt B R mt w0 W T v g ∧ (v.fr = F.1 ∧ v.bx = F.2) ∧ v.st = sv

theorem owns_none (w : World) (B : Nat) (hB : B ≤ w.heap.size) {W : World} (hW : W.heap[w.heap.size]? = some (.cells #[] 3)) : W.ownsRow B 3 1 (.slice (some ⟨w.heap.size, 0, none⟩) 0 0) 0 [] :=
  ⟨rfl, Or.inr ⟨w.heap.size, 0, #[], rfl, hB, hW, Nat.le_refl _, Nat.zero_le _, rfl, rfl⟩⟩
section
variable {B R : Nat} {mt : Int} {w0 w : World} {T : Nat → Nat} {v : Gv} {g : Rg.G}
/- a new row as the top frame's locals -/
theorem GAt.newTop (h : GAt B R mt w0 w T v g) {W w2 : World} (hb : Below w.heap.size w W) {q cap d n' cap' : Nat} {a' : Option Addr} {l : List Int} {xs : List Value} (hv : v.fr = .slice (some ⟨q, 0, none⟩) (g.s.gs.length + 1) cap) (hd : d = 2 * g.s.gs.length)
    (hG : Grew W w2 B 3 1 (.slice (some ⟨w.heap.size, 0, none⟩) 0 0) a' n' cap' xs) (hx : xs = ints l) (hn : n' = l.length) (hl : l.length ≤ 2048) :
    (∃ x, w2.cell? ⟨q, d, none⟩ = some x) ∧ w2.frozen? ⟨q, d, none⟩ = false ∧ q < w2.heap.size ∧ ∀ X, v.fr = X.1 ∧ v.bx = X.2 → Hid (EnAt B R mt w0 X v.st ⟨{ g.s with lo := l }, g.o⟩ (w2.setCell ⟨q, d, none⟩ (.slice a' n' cap'))) := by
  subst hd; subst hx; subst hn
  obtain ⟨q', cq, ta, lc, hv', _, _, _, hql, _, hqf, t0, _, hlv, _⟩ := h.top
  have e := hv.symm.trans hv'
  simp only [Value.slice.injEq, Option.some.injEq, Addr.mk.injEq] at e
  obtain ⟨⟨rfl, -, -⟩, -, rfl⟩ := e
  have hs : w.heap.size ≤ W.heap.size := hb.size
  have hblk : ∀ k, k < w.heap.size → w2.heap[k]? = w.heap[k]? := fun k hk =>
    (hG.grown.block k (by omega) (fun e => by
      have e' : k = w.heap.size := Option.some.inj e
      omega)).trans (hb.block k hk)
  have hg : w.grownBy w2 (Value.ownBlock (.slice ta g.s.lo.length lc)) := ⟨hG.grown.os.trans hb.os, hG.grown.tape.trans hb.tape, hG.grown.output.trans hb.output, Nat.le_trans hs hG.grown.size, fun k hk _ => hblk k hk⟩
  refine ⟨⟨_, (World.cell?_of_block (w := w) (a := ⟨q, 2 * g.s.gs.length, none⟩) (hblk q hql)).trans t0⟩, (World.frozen?_of_block (w := w) (a := ⟨q, 2 * g.s.gs.length, none⟩) (hblk q hql)).trans (hqf _), Nat.lt_of_lt_of_le hql hg.size, fun X hX => ⟨_, _, h.setTop hv hlv hg hG.own (fun k hk hlt => ?_) hl, hX, rfl⟩⟩
  have := hG.lies k hk (by omega)
  have e' : w.heap.size = k := Option.some.inj this
  omega
end

/- the top frame's locals have grown -/
theorem EnAt.grow {B R : Nat} {mt : Int} {w0 W w1 : World} {F : Value × Option (Nat × Obj)} {sv : Value} {g : Rg.G} {T : Nat → Nat} {v : Gv} {q cap d : Nat} {ta : Option Addr} {n lc : Nat} {x : Value} {l : List Int} (h : GAt B R mt w0 W T v g) (hX : v.fr = F.1 ∧ v.bx = F.2) (hs : v.st = sv)
    (hv : v.fr = .slice (some ⟨q, 0, none⟩) (g.s.gs.length + 1) cap) (hd : d = 2 * g.s.gs.length) (hy : v.lv[g.s.gs.length]? = some (.slice ta n lc))
    (hg : W.grownBy w1 (Value.ownBlock (.slice ta n lc))) (ho : w1.ownsRow B 3 1 x l.length (ints l)) (hat : ∀ k, x.ownBlock = some k → k < W.heap.size → Value.ownBlock (.slice ta n lc) = some k) (hl : l.length ≤ 2048) :
    (∃ x, w1.cell? ⟨q, d, none⟩ = some x) ∧ w1.frozen? ⟨q, d, none⟩ = false ∧ q < w1.heap.size ∧ Hid (EnAt B R mt w0 F sv ⟨{ g.s with lo := l }, g.o⟩ (w1.setCell ⟨q, d, none⟩ x)) := by
  subst hd
  obtain ⟨q', cq, ta', lc', hv', _, _, _, hql, hq4, hqf, t0, _, hlv, hown⟩ := h.top
  have e := hv.symm.trans hv'
  simp only [Value.slice.injEq, Option.some.injEq, Addr.mk.injEq] at e
  obtain ⟨⟨rfl, -, -⟩, -, rfl⟩ := e
  have e2 := hy.symm.trans hlv
  simp only [Option.some.injEq, Value.slice.injEq] at e2
  obtain ⟨rfl, rfl, rfl⟩ := e2
  have hblk : w1.heap[q]? = W.heap[q]? := hg.block q hql (fun e => by
    have := hown.mark q e.symm
    omega)
  exact ⟨⟨_, (World.cell?_of_block (w := W) (a := ⟨q, 2 * g.s.gs.length, none⟩) hblk).trans t0⟩, (World.frozen?_of_block (w := W) (a := ⟨q, 2 * g.s.gs.length, none⟩) hblk).trans (hqf _), Nat.lt_of_lt_of_le hql hg.size, _, _, h.setTop hv hy hg ho hat hl, hX, hs⟩

set_option maxHeartbeats 1600000 in
theorem genter_ok (B R : Nat) (mt : Int) (w0 : World) (F : Value × Option (Nat × Obj)) (L : List Value) (g : Rg.G) (q k d cap ka kb : Nat) (w : World) (h : Gch B R mt w0 F L w g)
    (hF : F.1 = .slice (some ⟨q, 0, none⟩) (k + 1) cap) (hk : g.s.gs.length = k) (hd : d = 2 * k) (hab : ka + kb ≤ 2048) (hle : ka ≤ g.s.stack.length) :
    Calls Try.prog 31 #[.pointer (some ⟨R, 0, none⟩), .pointer (some ⟨q, d, none⟩), .int .i64 ka, .int .i64 kb] w fun e w' => e = .returned (.tuple #[]) ∧ ∃ L', Gch B R mt w0 F L' w' ⟨{ g.s with lo := g.s.stack.drop (g.s.stack.length - ka) ++ List.replicate kb 0, stack := g.s.stack.take (g.s.stack.length - ka) }, g.o⟩ := by
  obtain ⟨i0, hi, hz0, hz1, hz2⟩ := info_parts info3
  obtain ⟨T, ⟨st, fr, da, iv, ou, lv, bx⟩, h, hF', hL⟩ := h
  obtain ⟨hF', hX⟩ := hF'
  simp only at hF' hL hX
  obtain ⟨r, hr⟩ : ∃ r, g.s.stack.length = r + ka := ⟨g.s.stack.length - ka, by omega⟩
  have hrk : g.s.stack.length - ka = r := by omega
  rw [hrk]
  have hb1 := h.bst
  have hRl := h.ltR
  have hdl : (g.s.stack.drop r).length = ka := by rw [List.length_drop]; omega
  obtain ⟨sa, scap, hv, hscap, hsmax⟩ := h.st.form
  simp only at hv
  subst hv
  have HM : Hid (GAt B R mt w0 w T ⟨.slice sa g.s.stack.length scap, fr, da, iv, ou, lv, bx⟩ g) := h
  obtain ⟨-, c1, -, -, -, -, -, -, -, -, ff⟩ := h.cell
  simp only at c1
  rw [hr] at c1 hscap
  have f1 := ff 1
  obtain ⟨q', cap', ta, lc, hv', -, -, -, hql, -, hqf, t0, -, hlv, -⟩ := h.top
  simp only at hv'
  obtain ⟨rfl, rfl⟩ : q = q' ∧ cap = cap' := by rw [hF', hF] at hv'; cases hv'; exact ⟨rfl, rfl⟩
  have fq := hqf d
  rw [hk, ← hd] at t0
  have HS : Hid (sa = none ∧ r = 0 ∧ ka = 0 ∧ scap = 0 ∨ ∃ g, sa = some ⟨g, 0, none⟩) := by
    rcases h.st.own.2 with ⟨h1, h2⟩ | ⟨g, cap', cur, h1, _⟩
    · simp only [Value.slice.injEq] at h1
      exact Or.inl ⟨h1.1, by omega, by omega, h1.2.2⟩
    · simp only [Value.slice.injEq] at h1
      exact Or.inr ⟨g, h1.1⟩
  have HF : Hid (∀ (W : World) (xa : Option Addr) (xc : Nat) (ty : TypeId), Below w.heap.size w W → W.heap[w.heap.size]? = some (.cells #[] 3) → ((xa = none ∧ ka = 0) ∨ (ka = 0 ∧ ∃ p, xa = some ⟨p, 0, none⟩) ∨ ∃ p, sa = some ⟨p, 0, none⟩ ∧ xa = some ⟨p, r, none⟩) →
      ∃ a' cap' w', (Builtin.append_ #[25, 25] ty #[.slice (some ⟨w.heap.size, 0, none⟩) 0 0, .slice xa ka xc]).run Try.prog W = .ok (.slice a' ka cap') w' ∧ ((∃ x, w'.cell? ⟨q, d, none⟩ = some x) ∧ w'.frozen? ⟨q, d, none⟩ = false ∧ q < w'.heap.size ∧ Hid (EnAt B R mt w0 F (.slice sa g.s.stack.length scap) ⟨{ g.s with lo := g.s.stack.drop r }, g.o⟩ (w'.setCell ⟨q, d, none⟩ (.slice a' ka cap'))))) := fun W xa xc ty hb hW hx => by
    obtain ⟨a', cap2, w', hrun, hG⟩ := run_append_form W B 25 ty 3 i0 _ 1 8 Try.underlying25 hi hz0 hz1 hz2 rfl (by omega) _ _ _ (owns_none w B h.hB hW) xa ka xc (ints (g.s.stack.drop r)) (by rw [ints_length, hdl, Nat.mul_one]) (by
      rcases hx with hx | ⟨hk, p, hx⟩ | ⟨p, hs, hx⟩
      · exact Or.inl hx
      · refine Or.inr ⟨_, hx, fun j u hj => ?_⟩
        rw [List.eq_nil_of_length_eq_zero (hdl.trans hk)] at hj
        simp [ints] at hj
      · refine Or.inr ⟨_, hx, fun j u hj => ?_⟩
        have hlen : 0 < g.s.stack.length := by
          have : j < (ints (g.s.stack.drop r)).length := by
            rcases Nat.lt_or_ge j (ints (g.s.stack.drop r)).length with h | h
            · exact h
            · rw [List.getElem?_eq_none h] at hj; cases hj
          rw [ints_length, List.length_drop] at this
          omega
        obtain ⟨p', cap', hv', _, _, _, _, _, _, hcell⟩ := (h.later hb).st.place hlen
        simp only [hs, Value.slice.injEq] at hv'
        have hg : p = p' := by simpa using hv'.1
        subst hg
        have := hcell (r + j) u (by
          rw [← hj]
          simp [ints, List.getElem?_drop])
        rw [show (⟨p, r, none⟩ : Addr).add j = ⟨p, r + j, none⟩ from by unfold Addr.add; split <;> simp_all]
        exact this) (ints_one _) (by unfold maxLen; omega) (by omega) (Nat.le_trans h.hB hb.size)
    rw [Nat.zero_add] at hrun hG
    obtain ⟨k1, k2, k3, k4⟩ := h.newTop (d := d) hb (hF'.trans (by rw [hk]; exact hF)) (by rw [hk]; exact hd) hG (List.nil_append _) hdl.symm (by rw [hdl]; omega)
    exact ⟨a', cap2, w', hrun, k1, k2, k3, k4 F ⟨hF', hX⟩⟩
  unfold maxLen at hsmax
  have HR := hid hr
  have HD := hid hdl
  have HK := hid hk
  have Hd := hid hd
  clear h hr hrk hdl hk hd ff
  have hrk' : (r : Int) ≤ (r : Int) + (ka : Int) := by omega
  have hwr : IntKind.i64.wrap (r : Int) = r := by rw [IntKind.wrap_i64] <;> omega
  go_enter Try.func31, Try.ntmps31
  go_wp2_with fail
  go_cut [] from 40 (fun wx => Hid (EnAt B R mt w0 F (.slice sa g.s.stack.length scap) ⟨{ g.s with lo := g.s.stack.drop r }, g.o⟩ wx))
  case first =>
    rcases HS.out with ⟨rfl, hr0, hka0, hsc0⟩ | ⟨g1, rfl⟩ <;> clear HS
    · have HF' := hid (fun W ty hb hW => HF.out W none (scap - r) ty hb hW (Or.inl ⟨rfl, hka0⟩))
      clear HF hr0 hka0 hsc0
      go_region_law (refine step_append_ex (by rfl) _ _ _ _ (by rfl) _ _ (by rfl) (by rfl) (HF'.out _ _ ((Below.refl _ _).alloc (Nat.le_refl _) _).drew (heap_alloc_new w _)) ?_; rintro a' cap' w2 ⟨⟨x, k1⟩, k2, k3, k4⟩)
      all_goals (go_wp2_with fail; go_meet; exact k4)
    rcases Nat.lt_or_ge r scap with hrc | hrc
    · have hne : ¬ scap = r := by omega
      have HF' := hid (fun W ty hb hW => HF.out W (some ⟨g1, r, none⟩) (scap - r) ty hb hW (Or.inr (Or.inr ⟨g1, rfl, rfl⟩)))
      clear HF
      go_region_law (refine step_append_ex (by rfl) _ _ _ _ (by rfl) _ _ (by rfl) (by rfl) (HF'.out _ _ ((Below.refl _ _).alloc (Nat.le_refl _) _).drew (heap_alloc_new w _)) ?_; rintro a' cap' w2 ⟨⟨x, k1⟩, k2, k3, k4⟩)
      all_goals (go_wp2_with fail; go_meet; exact k4)
    · have hka0 : ka = 0 := by omega
      obtain rfl : scap = r := by omega
      have HF' := hid (fun W xc ty hb hW => HF.out W (some ⟨g1, 0, none⟩) xc ty hb hW (Or.inr (Or.inl ⟨hka0, g1, rfl⟩)))
      clear HF hka0 hscap hrc
      go_region_law (refine step_append_ex (by rfl) _ _ _ _ (by rfl) _ _ (by rfl) (by rfl) (HF'.out _ _ _ ((Below.refl _ _).alloc (Nat.le_refl _) _).drew (heap_alloc_new w _)) ?_; rintro a' cap' w2 ⟨⟨x, k1⟩, k2, k3, k4⟩)
      all_goals (go_wp2_with fail; go_meet; exact k4)
  case rest =>
    have HC := hcut
    clear hcut HF c1 f1 fq t0 hql hRl HM
    go_wp2_with fail
    go_loopw [8] (fun i wr => ∃ j : Nat, j ≤ kb ∧ i = .int .i64 j ∧ Hid (EnAt B R mt w0 F (.slice sa g.s.stack.length scap) ⟨{ g.s with lo := g.s.stack.drop r ++ List.replicate j 0 }, g.o⟩ wr)) (fun i _ => kb - (intOf i).toNat)
    case atStart => exact ⟨0, Nat.zero_le _, rfl, by rw [List.replicate_zero, List.append_nil]; exact HC⟩
    case round =>
      obtain ⟨j, hj, rfl, HE⟩ := hrel
      by_cases hlt : j < kb
      · obtain ⟨T1, v1, h1, hX1, hs1⟩ := HE.out
        have hl1 : (g.s.stack.drop r ++ List.replicate j (0 : Int)).length = ka + j := by rw [List.length_append, HD.out, List.length_replicate]
        have hv1 : v1.fr = .slice (some ⟨q, 0, none⟩) (g.s.gs.length + 1) cap := by rw [hX1.1, HK.out]; exact hF
        obtain ⟨q', cq, ta, lc, hv', _, _, _, hql, _, hqf, t0, _, hlv, hown⟩ := h1.top
        have e := hv1.symm.trans hv'
        simp only [Value.slice.injEq, Option.some.injEq, Addr.mk.injEq] at e
        obtain ⟨⟨rfl, -, -⟩, -, rfl⟩ := e
        simp only at t0 hlv hown
        rw [HK.out, ← Hd.out, hl1] at t0
        obtain ⟨a2, c2, hf1, hf2, hf3⟩ := hown.form
        simp only [Value.slice.injEq] at hf1
        obtain ⟨rfl, -, rfl⟩ := hf1
        unfold maxLen at hf3
        rw [hl1] at hf2
        have HH := hid h1
        have HV := hid hlv
        have HW := hid hown
        have Hv1 := hid hv1
        clear h1 hlv hown hv1 hv' hqf
        go_wp2_with (at_builtin; refine wpList_append_lies _ rfl _ _ _ rfl B 3 i0 _ 1 8 Try.underlying25 hi hz0 hz1 hz2 rfl (by omega) (.slice ta (ka + j) lc) (ka + j) (ints (g.s.stack.drop r ++ List.replicate j 0)) rfl (by rw [← hl1]; exact (HW.out.keep (fun k hk _ => ((Below.refl _ _).alloc (Nat.le_refl _) _).block k hk) (fun _ _ e => e)).own) ⟨_, 0, none⟩ 1 1 [.int .i64 0] rfl rfl (cell_one_new _ _ _) (by simp; rfl) (by omega) (by unfold maxLen; omega) (by omega) (by have := HH.out.hB; simp; omega) _ rfl ?_; intro q2 cap2 w1 hown1 hg hat hlt2; obtain ⟨⟨x, k1⟩, k2, k3, k4⟩ := EnAt.grow (d := d) (l := (g.s.stack.drop r ++ List.replicate j 0) ++ [0]) (HH.out.alloc _) hX1 hs1 Hv1.out (by show d = 2 * g.s.gs.length; rw [HK.out]; exact Hd.out) HV.out (by rw [hl1]; exact hg) (by rw [len_snoc, hl1, ← ints_snoc]; exact hown1) (fun k hk hlt => by rw [hl1]; exact lies_at hat k hk hlt) (by rw [len_snoc, hl1]; omega); clear hown1 hg hat)
        go_roundw
        case rel => exact ⟨j + 1, by omega, by go_num, by rw [List.replicate_succ', ← List.append_assoc]; exact k4⟩
        case measure => simp [intOf]; omega
      · obtain rfl : j = kb := by omega
        obtain ⟨T1, v1, h1, hX1, hs1⟩ := HE.out
        have c1 := h1.cell.2.1
        have f1 := h1.cell.2.2.2.2.2.2.2.2.2.2 1
        have hRl := h1.ltR
        rw [hs1, HR.out] at c1
        have HL : Hid (∃ L', Gch B R mt w0 F L' (wr.drew.setCell ⟨R, 1, none⟩ (.slice sa r scap)) ⟨{ g.s with lo := g.s.stack.drop r ++ List.replicate j 0, stack := g.s.stack.take r }, g.o⟩) := by
          have hl : (g.s.stack.take r).length = r := by rw [List.length_take, HR.out]; omega
          have h2 := h1.drew
          refine ⟨_, _, _, h2.setSt (x := .slice sa r scap) (l := g.s.stack.take r) (grown_refl _ _) ?_ (fun k hk _ => ?_) (by have := hb1; rw [HR.out] at this; rw [hl]; omega), hX1, rfl⟩
          · have := (h2.st.cut (m := r) (by show r ≤ g.s.stack.length; rw [HR.out]; omega) hs1).own
            rw [Nat.mul_one, ints_take] at this
            rw [hl]
            exact this
          · rw [hs1]
            exact (show Value.ownBlock (.slice sa g.s.stack.length scap) = Value.ownBlock (.slice sa r scap) from by cases sa <;> rfl).trans hk
        clear h1 hX1 hs1 HE
        rcases HS.out with ⟨rfl, -, -, -⟩ | ⟨g1, rfl⟩ <;> clear HS
        all_goals
          go_wp2_with fail
          go_region
          all_goals
            go_wp2_with fail
            go_end0
            exact ⟨rfl, HL.out⟩

end Go.Proofs.Ytljdoholcdhkhaa
