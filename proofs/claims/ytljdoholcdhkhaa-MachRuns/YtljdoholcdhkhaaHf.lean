/-
  The reference's machine does an instruction: what is told.
-/
import Derived.Test.YtljdoholcdhkhaaHa
namespace Go.Proofs.Ytljdoholcdhkhaa
open Go.RowKit Go.Shelf
set_option maxRecDepth 100000

theorem Gch.outs {B R : Nat} {mt : Int} {w0 w : World} {g : Rg.G} {F : Value} {X : Option (Nat × Obj)} {L : List Value} (h : Gch B R mt w0 (F, X) L w g) :
    ∃ T v a cap, Hid (GAt B R mt w0 w T v g ∧ (v.fr = F ∧ v.bx = X) ∧ v.lv = L ∧ v.ou = .slice a g.s.out.length cap) ∧ w.cell? ⟨R, 5, none⟩ = some (.slice a g.s.out.length cap) ∧ w.frozen? ⟨R, 5, none⟩ = false ∧ R < w.heap.size ∧ g.s.out.length ≤ cap ∧ cap ≤ 9223372036854775807 ∧ g.s.out.length ≤ 200 := by
  obtain ⟨T, v, h, hX, hL⟩ := h
  obtain ⟨a, cap, hv, hcap, hmax⟩ := h.ou.form
  unfold maxLen at hmax
  exact ⟨T, v, a, cap, ⟨h, hX, hL, hv⟩, by rw [← hv]; exact h.cell.2.2.2.2.2.1, h.cell.2.2.2.2.2.2.2.2.2.2 5, h.ltR, hcap, by omega, h.bou⟩

set_option maxHeartbeats 800000 in
theorem gdo19 (B R : Nat) (mt : Int) (w0 : World) (F : Value) (L : List Value) (g : Rg.G) (a b : Int) (w : World) (h : Gch B R mt w0 (F, none) L w g) (hp : DoOk g ⟨19, a, b⟩) : GDoes B R mt w0 g ⟨19, a, b⟩ w := by
  obtain ⟨q, cap, k, hF, hk, hk24, hcap, hmax, hql, hRl, c0, c2, hpc0, hpc1, hw1, HB⟩ := h.start _ hp
  have HP : Hid (Rg.doI mt ⟨19, a, b⟩ g = Rg.at_ (g.s.pc + 1) (Rg.told (Rg.pop g).1 (Rg.fullOut (Rg.pop g).2))) := rfl
  have HC : Hid (∀ n, Calls Try.prog 26 #[.pointer (some ⟨R, 0, none⟩)] ((w.alloc (bxOf ⟨19, a, b⟩)).drewN n) (GEnd B R mt w0 (F, some (w.heap.size, bxOf ⟨19, a, b⟩)) L (.int .i64 (Rg.pop g).1) ((Rg.pop g).2))) := fun n => gpop_any _ _ _ _ _ _ _ _ (HB.out n)
  obtain ⟨i0, hi, hz0, hz1, hz2⟩ := info_parts info3
  clear h hp hF hk HB
  generalize (Rg.pop g).1 = p at *
  generalize (Rg.pop g).2 = g2 at *
  unfold GDoes
  go_enter Try.func20, Try.ntmps20
  go_wp2_with fail
  go_quiet ((fail))
  go_wp2_with fail
  refine (HC.out _).mono ?_
  rintro e w1 ⟨rfl, H1⟩
  have k9 := H1.over
  clear HC
  cases ho : g2.o with
  | true =>
    have HP2 : Hid (Rg.doI mt ⟨19, a, b⟩ g = Rg.at_ (g.s.pc + 1) g2) := HP.out.trans (by unfold Rg.fullOut; rw [if_neg (fun h => by rw [ho] at h; cases h.1)]; unfold Rg.told; rw [if_pos ho])
    rw [ho] at k9
    clear HP ho
    obtain ⟨⟨x, k1⟩, k2, k3⟩ := H1.get
    have H1 := hid H1
    go_wp2_with fail
    go_end0
    exact ⟨rfl, by rw [HP2.out]; exact H1.out.setPc _⟩
  | false =>
    rw [ho] at k9
    obtain ⟨T, v, oa, oc, HM, c5, f5, hR1, ho1, ho2, ho3⟩ := H1.outs
    by_cases hl : 200 ≤ g2.s.out.length
    · have e1 : Rg.fullOut g2 = Rg.stop 5 g2 := if_pos ⟨ho, hl⟩
      have HP2 : Hid (Rg.doI mt ⟨19, a, b⟩ g = Rg.at_ (g.s.pc + 1) (Rg.stop 5 g2)) := HP.out.trans (by rw [e1]; unfold Rg.told; rw [if_pos (stop_over 5 g2)])
      have H1 := hid H1
      clear HP ho e1 HM
      generalize g2.s.out.length = n at *
      go_wp2_with fail
      refine (gstop_any _ _ _ _ _ _ _ _ _ H1.out).mono ?_
      clear H1
      rintro e w2 ⟨rfl, H1⟩
      have k9 := H1.over
      rw [stop_over 5 g2] at k9
      obtain ⟨⟨x, k1⟩, k2, k3⟩ := H1.get
      have H1 := hid H1
      go_wp2_with fail
      go_end0
      exact ⟨rfl, by rw [HP2.out]; exact H1.out.setPc _⟩
    · have hl' : g2.s.out.length < 200 := by omega
      have e1 : Rg.fullOut g2 = g2 := if_neg (fun h => hl h.2)
      have HP2 : Hid (Rg.doI mt ⟨19, a, b⟩ g = Rg.at_ (g.s.pc + 1) ⟨{ g2.s with out := g2.s.out ++ [p] }, g2.o⟩) := HP.out.trans (by rw [e1]; unfold Rg.told; rw [ho]; rfl)
      clear HP ho e1 H1
      have HE : Hid (∀ o : Obj, ∃ T, GAt B R mt w0 (w1.alloc o) T v g2 ∧ v.ou = .slice oa g2.s.out.length oc ∧ (∀ k, v.ou.ownBlock = some k → T k = 6)) := fun o => ⟨T, HM.out.1.alloc o, HM.out.2.2.2, fun k e => HM.out.1.ou.mark k e⟩
      go_wp2_with (at_builtin; refine wpList_append_lies _ rfl _ _ _ rfl B 3 i0 _ 1 8 Try.underlying25 hi hz0 hz1 hz2 rfl (by omega) (.slice oa g2.s.out.length oc) g2.s.out.length (ints g2.s.out) rfl (by have := (HM.out.1.alloc (.cells #[.int .i64 p] 3)).ou.own; rw [HM.out.2.2.2] at this; exact this) ⟨_, 0, none⟩ 1 1 [.int .i64 p] rfl rfl (cell_one_new _ _ _) (by simp; rfl) (by omega) (by unfold maxLen; omega) (by omega) (by have := HM.out.1.hB; simp; omega) _ rfl ?_; intro q2 cap2 w2 hown1 hg hat hlt; rw [← HM.out.2.2.2] at hg hat; obtain ⟨fc, ff, fl⟩ := (HM.out.1.alloc _).far (fun k e => HM.out.1.ou.mark k e) (by decide) hg; have fc5 := (fc 5).trans (HM.out.1.alloc _).cell.2.2.2.2.2.1; have ff5 := ff 5; have fc0 := (fc 0).trans (HM.out.1.alloc _).cell.1; have ff0 := ff 0; have HO := hid hown1; have HG := hid hg; have HT := hid hat; clear hown1 hg hat fc ff)
      go_end0
      refine ⟨rfl, ?_⟩
      rw [HP2.out]
      have h9 := (HM.out.1.alloc _).setOu HG.out (by rw [len_snoc, ← ints_snoc]; exact HO.out) (lies_at HT.out) (by rw [len_snoc]; omega)
      exact Gch.setPc ⟨_, _, h9, HM.out.2.1, HM.out.2.2.1⟩ _

/- the numbers that come in -/
theorem Gch.inCons {B R : Nat} {mt : Int} {w0 w : World} {g : Rg.G} {F : Value} {X : Option (Nat × Obj)} {L : List Value} {x : Int} {r : List Int} (h : Gch B R mt w0 (F, X) L w g) (hin : g.s.inp = x :: r) :
    ∃ p off cap, w.cell? ⟨R, 4, none⟩ = some (.slice (some ⟨p, off, none⟩) (r.length + 1) cap) ∧ r.length + 1 ≤ cap ∧ cap ≤ 9223372036854775807 ∧ r.length ≤ 63 ∧ w.cell? ⟨p, off, none⟩ = some (.int .i64 x) ∧ w.frozen? ⟨R, 4, none⟩ = false ∧ R < w.heap.size ∧ p < w.heap.size ∧
      Hid (cap = 1 → r.length = 0 ∧ Gch B R mt w0 (F, X) L (w.setCell ⟨R, 4, none⟩ (.slice (some ⟨p, off, none⟩) 0 0)) ⟨{ g.s with inp := r }, g.o⟩) ∧ Hid (Gch B R mt w0 (F, X) L (w.setCell ⟨R, 4, none⟩ (.slice (some ⟨p, off + 1, none⟩) r.length (cap - 1))) ⟨{ g.s with inp := r }, g.o⟩) := by
  obtain ⟨T, v, h, hX, hL⟩ := h
  obtain ⟨a, cap, hv, hcap, hmax, hcells⟩ := h.inp
  have hbin := h.bin
  rw [hin] at hv hcap hbin hcells
  simp only [List.length_cons] at hv hcap hbin
  unfold maxLen at hmax
  rcases hcells with hc | ⟨p, off, rfl, hbB, hc⟩
  · cases hc
  have hx : w.cell? ⟨p, off, none⟩ = some (.int .i64 x) := (h.below.cell (p := ⟨p, off, none⟩) hbB).trans (hc 0 (by simp))
  have hI : IntsAt w0 B (.slice (some ⟨p, off + 1, none⟩) r.length (cap - 1)) r := by
    refine ⟨_, _, rfl, by omega, by unfold maxLen; omega, ?_⟩
    cases r with
    | nil => exact Or.inl rfl
    | cons y r => exact Or.inr ⟨p, off + 1, rfl, hbB, fun i hi => by
        have := hc (i + 1) (by simp at hi ⊢; omega)
        rw [show off + (i + 1) = off + 1 + i from by omega] at this
        simpa using this⟩
  refine ⟨p, off, cap, by rw [← hv]; exact h.cell.2.2.2.2.1, hcap, by omega, by omega, hx, h.cell.2.2.2.2.2.2.2.2.2.2 4, h.ltR, Nat.lt_of_lt_of_le hbB h.hB, fun h1 => ?_, ⟨T, _, h.setIn _ r hI (by omega), hX, hL⟩⟩
  have h0 : r.length = 0 := by omega
  have hr : r = [] := List.eq_nil_of_length_eq_zero h0
  exact ⟨h0, T, _, h.setIn _ r (by rw [hr]; exact ⟨_, _, rfl, Nat.le_refl _, by unfold maxLen; omega, Or.inl rfl⟩) (by omega), hX, hL⟩
theorem Gch.inNil {B R : Nat} {mt : Int} {w0 w : World} {g : Rg.G} {F : Value} {X : Option (Nat × Obj)} {L : List Value} (h : Gch B R mt w0 (F, X) L w g) (hin : g.s.inp = []) :
    ∃ a cap, w.cell? ⟨R, 4, none⟩ = some (.slice a 0 cap) := by
  obtain ⟨T, v, h, hX, hL⟩ := h
  obtain ⟨a, cap, hv, hcap, hmax, hcells⟩ := h.inp
  rw [hin] at hv
  exact ⟨a, cap, by rw [← show v.iv = .slice a 0 cap from hv]; exact h.cell.2.2.2.2.1⟩
theorem push_inp (n : Int) (g : Rg.G) : (Rg.push n g).s.inp = g.s.inp := by
  unfold Rg.push Rg.put Rg.full Rg.stop
  repeat' split
  all_goals rfl

set_option maxHeartbeats 800000 in
theorem gdo18 (B R : Nat) (mt : Int) (w0 : World) (F : Value) (L : List Value) (g : Rg.G) (a b : Int) (w : World) (h : Gch B R mt w0 (F, none) L w g) (hp : DoOk g ⟨18, a, b⟩) : GDoes B R mt w0 g ⟨18, a, b⟩ w := by
  obtain ⟨q, cap, k, hF, hk, hk24, hcap, hmax, hql, hRl, c0, c2, hpc0, hpc1, hw1, HB⟩ := h.start _ hp
  have HP : Hid (Rg.doI mt ⟨18, a, b⟩ g = Rg.at_ (g.s.pc + 1) (Rg.tailIn (Rg.push (g.s.inp.headD 0) g))) := rfl
  cases hin : g.s.inp with
  | nil =>
    obtain ⟨ia, ic, c4⟩ := h.inNil hin
    have HP2 : Hid (Rg.doI mt ⟨18, a, b⟩ g = Rg.at_ (g.s.pc + 1) (Rg.push 0 g)) := HP.out.trans (by
      have e : Rg.tailIn (Rg.push (g.s.inp.headD 0) g) = Rg.push 0 g := by
        have e1 := push_inp 0 g
        rw [hin] at e1
        rw [hin]
        show Rg.tailIn (Rg.push 0 g) = _
        generalize Rg.push 0 g = y at *
        obtain ⟨⟨pc, stack, gs, lo, bk, data, inp, out, ticks, steps, en⟩, o⟩ := y
        simp only at e1
        subst e1
        rfl
      rw [e])
    have HN : Hid ((Rg.push 0 g).s.inp = []) := (push_inp 0 g).trans hin
    clear h hp hF hk HP hin
    unfold GDoes
    go_enter Try.func20, Try.ntmps20
    go_wp2_with fail
    go_quiet ((fail))
    go_wp2_with fail
    refine (gpush_any _ _ _ _ _ _ _ _ _ (HB.out _)).mono ?_
    rintro e w1 ⟨rfl, H1⟩
    obtain ⟨ia1, ic1, d4⟩ := H1.inNil HN.out
    obtain ⟨⟨x, k1⟩, k2, k3⟩ := H1.get
    have H1 := hid H1
    go_wp2_with fail
    go_end0
    exact ⟨rfl, by rw [HP2.out]; exact H1.out.setPc _⟩
  | cons x r =>
    obtain ⟨p, off, ic, c4, i1, i2, i3, i4, i5, -, i6, -, -⟩ := h.inCons hin
    have HP2 : Hid (Rg.doI mt ⟨18, a, b⟩ g = Rg.at_ (g.s.pc + 1) ⟨{ (Rg.push x g).s with inp := r }, (Rg.push x g).o⟩) := HP.out.trans (by
      have e1 := push_inp x g
      rw [hin] at e1 ⊢
      show Rg.at_ _ (Rg.tailIn (Rg.push x g)) = _
      unfold Rg.tailIn
      rw [e1]
      rfl)
    have HN : Hid ((Rg.push x g).s.inp = x :: r) := (push_inp x g).trans hin
    clear h hp hF hk HP hin
    generalize hrl : r.length = n at *
    have HR := hid hrl
    clear hrl
    unfold GDoes
    go_enter Try.func20, Try.ntmps20
    go_wp2_with fail
    go_quiet ((fail))
    go_wp2_with fail
    refine (gpush_any _ _ _ _ _ _ _ _ _ (HB.out _)).mono ?_
    rintro e w1 ⟨rfl, H1⟩
    obtain ⟨p', off', ic', d4, j1, j2, j3, j4, j5, j7, j6, J1, J2⟩ := H1.inCons HN.out
    rw [HR.out] at d4 j1 j3 J1 J2
    obtain ⟨⟨y, k1⟩, k2, k3⟩ := H1.get
    clear H1
    by_cases hc1 : ic' = 1
    · subst hc1
      obtain ⟨h0, J⟩ := J1.out rfl
      have J := hid J
      clear J1 J2
      subst h0
      go_wp2_with fail
      go_end0
      exact ⟨rfl, by rw [HP2.out]; exact J.out.setPc _⟩
    · clear J1
      go_wp2_with fail
      go_end0
      exact ⟨rfl, by rw [HP2.out]; exact J2.out.setPc _⟩

end Go.Proofs.Ytljdoholcdhkhaa
