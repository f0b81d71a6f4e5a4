/-
  The reference's machine does an instruction: a call.
-/
import Derived.Test.YtljdoholcdhkhaaHa
namespace Go.Proofs.Ytljdoholcdhkhaa
open Go.RowKit Go.Shelf
set_option maxRecDepth 100000

theorem info53 : (Try.prog.info? 53).map (fun i => (i.zero, i.size, i.bytes)) = some (some (.agg #[.slice none 0 0, .int .i64 0]), 2, 32) := by kernel_rfl
theorem GAt.bxFar {B R : Nat} {mt : Int} {w0 w w1 : World} {T : Nat → Nat} {v : Gv} {g : Rg.G} {n : Nat} {i : Mc.Ins} (h : GAt B R mt w0 w T v g) (hX : v.bx = some (n, bxOf i)) (hg : w.grownBy w1 v.fr.ownBlock) : w1.cell? ⟨n, 1, none⟩ = some (.int .i64 i.a) := by
  obtain ⟨h1, h2⟩ := h.kp _ hX
  have e : w1.heap[n]? = some (bxOf i) := (hg.block n (lt_of_heap h1) (fun e => by
    have h3 := h.fr.mark n e.symm
    simp only at h2
    omega)).trans h1
  rw [Lib.cell_of_heap e]; rfl
theorem two_one {n : Int} : ∀ u ∈ [Value.slice none 0 0, .int .i64 n], u.oneCell' = true := by
  intro u hu
  simp only [List.mem_cons, List.not_mem_nil, or_false] at hu
  rcases hu with rfl | rfl <;> rfl
theorem late_gs (mt : Int) (g : Rg.G) : (Rg.late mt g).s.gs = g.s.gs := by
  unfold Rg.late; split
  · exact stop_gs 3 g
  · rfl
theorem tick_gs (mt : Int) (g : Rg.G) : (Rg.tick mt g).s.gs = g.s.gs := by
  unfold Rg.tick Rg.ticked; split
  · exact late_gs mt g
  · exact late_gs mt g
theorem Gch.calls {B R : Nat} {mt : Int} {w0 w : World} {g : Rg.G} {F : Value} {X : Option (Nat × Obj)} {L : List Value} {q k cap : Nat} (h : Gch B R mt w0 (F, X) L w g) (hF : F = .slice (some ⟨q, 0, none⟩) (k + 1) cap) :
    ∃ T v, Hid (GAt B R mt w0 w T v g ∧ (v.fr = F ∧ v.bx = X) ∧ v.lv = L) ∧ w.cell? ⟨R, 2, none⟩ = some (.slice (some ⟨q, 0, none⟩) (k + 1) cap) ∧ w.frozen? ⟨R, 2, none⟩ = false := by
  obtain ⟨T, v, h, hX, hL⟩ := h
  refine ⟨T, v, ⟨h, hX, hL⟩, ?_, h.cell.2.2.2.2.2.2.2.2.2.2 2⟩
  rw [h.cell.2.2.1, hX.1, hF]

set_option maxHeartbeats 800000 in
theorem gdo13 (B R : Nat) (mt : Int) (w0 : World) (F : Value) (L : List Value) (g : Rg.G) (a b : Int) (w : World) (h : Gch B R mt w0 (F, none) L w g) (hp : DoOk g ⟨13, a, b⟩) : GDoes B R mt w0 g ⟨13, a, b⟩ w := by
  obtain ⟨q, cap, k, hF, hk, hk24, hcap, hmax, hql, hRl, c0, c2, hpc0, hpc1, hw1, HB⟩ := h.start _ hp
  have HP : Hid (Rg.doI mt ⟨13, a, b⟩ g = Rg.at_ a (Rg.called (g.s.pc + 1) (Rg.deep (Rg.tick mt g)))) := rfl
  have HC : Hid (∀ n, Calls Try.prog 30 #[.pointer (some ⟨R, 0, none⟩)] ((w.alloc (bxOf ⟨13, a, b⟩)).drewN n) (GEnd B R mt w0 (F, some (w.heap.size, bxOf ⟨13, a, b⟩)) L (.tuple #[]) (Rg.tick mt g))) := fun n => gtick_any _ _ _ _ _ _ _ _ (HB.out n)
  obtain ⟨i0, hi, hz0, hz1, hz2⟩ := info_parts info53
  have HF := hid hF
  have hkt : (Rg.tick mt g).s.gs.length = k := by rw [tick_gs]; exact hk
  clear h hp hF hk HB
  generalize Rg.tick mt g = g2 at *
  unfold GDoes
  go_enter Try.func20, Try.ntmps20
  go_wp2_with fail
  go_quiet ((fail))
  go_wp2_with fail
  refine (HC.out _).mono ?_
  rintro e w1 ⟨rfl, H1⟩
  clear HC
  by_cases hd : 24 < k + 1
  · have e1 : Rg.deep g2 = Rg.stop 4 g2 := if_pos (by rw [hkt]; exact hd)
    have HP2 : Hid (Rg.doI mt ⟨13, a, b⟩ g = Rg.at_ a (Rg.called (g.s.pc + 1) (Rg.stop 4 g2))) := HP.out.trans (by rw [e1])
    have HK : Hid ((Rg.stop 4 g2).s.gs.length = k) := by rw [stop_gs]; exact hkt
    obtain ⟨T0, v0, HM0, c2', f2'⟩ := H1.calls HF.out
    have H1 := hid H1
    clear HP e1 HM0 hkt
    go_wp2_with fail
    refine (gstop_any _ _ _ _ _ _ _ _ _ H1.out).mono ?_
    rintro e w2 ⟨rfl, H2⟩
    obtain ⟨T, v, HM, d2, g2'⟩ := H2.calls HF.out
    clear H1 H2
    have HW : Hid (∀ o : Obj, (w2.alloc o).ownsRow B 53 2 (.slice (some ⟨q, 0, none⟩) (k + 1) cap) (k + 1) (gF v.lv ((Rg.stop 4 g2).s.gs ++ [((Rg.stop 4 g2).s.lo, (Rg.stop 4 g2).s.bk)]))) := fun o => by
      have := (HM.out.1.alloc o).fr.own
      rw [HM.out.2.1.1, HF.out, HK.out] at this
      exact this
    go_wp2_with (at_builtin; refine wpList_append_lies _ rfl _ _ _ rfl B 53 i0 _ 2 32 Try.underlying54 hi hz0 hz1 hz2 rfl (by omega) (.slice (some ⟨q, 0, none⟩) (k + 1) cap) (k + 1) (gF v.lv ((Rg.stop 4 g2).s.gs ++ [((Rg.stop 4 g2).s.lo, (Rg.stop 4 g2).s.bk)])) rfl (HW.out _) ⟨_, 0, none⟩ 1 1 [.slice none 0 0, .int .i64 (g.s.pc + 1)] rfl rfl (two_new _ _ _ _) two_one (by omega) (by unfold maxLen; omega) (by omega) (by have := HM.out.1.hB; simp; omega) _ rfl ?_; intro q2 cap2 w9 hown1 hg hat hlt; rw [← HF.out, ← HM.out.2.1.1] at hg hat; obtain ⟨fc, ff, fl⟩ := (HM.out.1.alloc _).far (fun k e => HM.out.1.fr.mark k e) (by decide) hg; have fc2 := (fc 2).trans (HM.out.1.alloc _).cell.2.2.1; have ff2 := ff 2; have fc0 := (fc 0).trans (HM.out.1.alloc _).cell.1; have ff0 := ff 0; have b9 := (HM.out.1.alloc _).bxFar HM.out.2.1.2 hg; have HO := hid hown1; have HG := hid hg; have HT := hid hat; clear hown1 hg hat fc ff)
    go_end0
    refine ⟨rfl, ?_⟩
    rw [HP2.out]
    have h9 := (HM.out.1.alloc _).moreFr (nx := g.s.pc + 1) HG.out (by rw [HK.out]; exact HO.out) (lies_at HT.out) (by rw [HK.out]; omega)
    exact Gch.setPc ⟨_, _, h9, ⟨rfl, rfl⟩, rfl⟩ _
  · have e1 : Rg.deep g2 = g2 := if_neg (by rw [hkt]; exact hd)
    have HP2 : Hid (Rg.doI mt ⟨13, a, b⟩ g = Rg.at_ a (Rg.called (g.s.pc + 1) g2)) := HP.out.trans (by rw [e1])
    obtain ⟨T, v, HM, c2', f2'⟩ := H1.calls HF.out
    have HK := hid hkt
    clear HP e1 hkt H1
    have HW : Hid (∀ o : Obj, (w1.alloc o).ownsRow B 53 2 (.slice (some ⟨q, 0, none⟩) (k + 1) cap) (k + 1) (gF v.lv (g2.s.gs ++ [(g2.s.lo, g2.s.bk)]))) := fun o => by
      have := (HM.out.1.alloc o).fr.own
      rw [HM.out.2.1.1, HF.out, HK.out] at this
      exact this
    go_wp2_with (at_builtin; refine wpList_append_lies _ rfl _ _ _ rfl B 53 i0 _ 2 32 Try.underlying54 hi hz0 hz1 hz2 rfl (by omega) (.slice (some ⟨q, 0, none⟩) (k + 1) cap) (k + 1) (gF v.lv (g2.s.gs ++ [(g2.s.lo, g2.s.bk)])) rfl (HW.out _) ⟨_, 0, none⟩ 1 1 [.slice none 0 0, .int .i64 (g.s.pc + 1)] rfl rfl (two_new _ _ _ _) two_one (by omega) (by unfold maxLen; omega) (by omega) (by have := HM.out.1.hB; simp; omega) _ rfl ?_; intro q2 cap2 w9 hown1 hg hat hlt; rw [← HF.out, ← HM.out.2.1.1] at hg hat; obtain ⟨fc, ff, fl⟩ := (HM.out.1.alloc _).far (fun k e => HM.out.1.fr.mark k e) (by decide) hg; have fc2 := (fc 2).trans (HM.out.1.alloc _).cell.2.2.1; have ff2 := ff 2; have fc0 := (fc 0).trans (HM.out.1.alloc _).cell.1; have ff0 := ff 0; have b9 := (HM.out.1.alloc _).bxFar HM.out.2.1.2 hg; have HO := hid hown1; have HG := hid hg; have HT := hid hat; clear hown1 hg hat fc ff)
    go_end0
    refine ⟨rfl, ?_⟩
    rw [HP2.out]
    have h9 := (HM.out.1.alloc _).moreFr (nx := g.s.pc + 1) HG.out (by rw [HK.out]; exact HO.out) (lies_at HT.out) (by rw [HK.out]; omega)
    exact Gch.setPc ⟨_, _, h9, ⟨rfl, rfl⟩, rfl⟩ _

end Go.Proofs.Ytljdoholcdhkhaa
