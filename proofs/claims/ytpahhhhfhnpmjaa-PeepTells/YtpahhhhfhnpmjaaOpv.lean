/-
  The machine's call: a frame more.
-/
import Derived.Test.YtpahhhhfhnpmjaaOpu
import Derived.Deep.RegionLaw
namespace Go.Proofs.Ytpahhhhfhnpmjaa
open Go.RowKit
set_option maxRecDepth 100000

theorem two_new (w : World) (x y : Value) (t : TypeId) : ∀ j u, [x, y][j]? = some u → (w.alloc (.cells #[x, y] t)).cell? ((⟨w.heap.size, 0, none⟩ : Addr).add j) = some u :=
  World.news_of_block (cs := #[x, y]) (_root_.Go.heap_alloc_new w (.cells #[x, y] t))

set_option maxHeartbeats 800000 in
theorem call_any (B R : Nat) (c : Mc.Cfg) (w0 : World) (s : Mc.St) (to : Int) (w : World) (h : Mch B R c w0 w s) :
    Calls Try.prog 54 #[.pointer (some ⟨R, 0, none⟩), .int .i64 to] w (MEnd B R c w0 (Mc.call c.mt to s) unitV) := by
  have HM : Hid (Mch B R c w0 w s) := h
  clear h
  obtain ⟨i0, hi, hz0, hz1, hz2⟩ := info_parts info61
  go_enter Try.func54, Try.ntmps54
  go_wp2_with fail
  refine (tick_any B R c w0 s _ HM.out).mono ?_
  intro e w1 he
  rcases he.parts with ⟨_, s1, HR, rfl, Hm⟩ | ⟨s1, HR, rfl, Hm⟩ <;> clear he <;> simp only [unitV]
  · have HP : Hid (Mc.call c.mt to s = if 24 < s1.gs.length + 1 then Mc.halt 4 s1 else .ok () { s1 with gs := s1.gs ++ [(s1.lo, s1.bk)], lo := [], bk := s1.pc, pc := to }) := bind_ok _ HR.out
    clear HR HM
    obtain ⟨T, ⟨cv, st, lo, fr, da, iv, ou⟩, h⟩ := Hm.out
    obtain ⟨g, cap, hv, hcap, hmax, hBg, hgl, hmk, hfz, hcell⟩ := h.fr.place (by omega)
    simp only at hv
    subst hv
    obtain ⟨la, lcap, hv, hlcap, hlmax⟩ := h.lo.form
    simp only at hv
    subst hv
    have HA : Hid (MAt B R c w0 w1 T ⟨cv, st, .slice la (flat s1.gs ++ s1.lo).length lcap, .slice (some ⟨g, 0, none⟩) (s1.gs.length + 1) cap, da, iv, ou⟩ s1) := h
    obtain ⟨-, c1, -, c3, c4, -, -, -, -, -, -, -, c12, hf⟩ := h.cell
    simp only at c3 c4
    have hgs := h.bgs
    have hll := h.locals_le
    have hRl := h.ltR
    unfold maxLen at hmax hlmax
    clear h hcell
    by_cases hd : 24 < s1.gs.length + 1
    · have HP2 : Hid (Mc.call c.mt to s = .stop { s1 with en := 4 }) := HP.out.trans (if_pos hd)
      generalize s1.gs.length = k at *
      go_wp2_with fail
      refine (halt_any 4 _ Hm.out).mono ?_
      rintro e w2 ⟨rfl, hm⟩
      go_wp2_with fail
      exact ⟨rfl, MEnd.stop HP2.out rfl hm⟩
    · have HP2 : Hid (Mc.call c.mt to s = .ok () { s1 with gs := s1.gs ++ [(s1.lo, s1.bk)], lo := [], bk := s1.pc, pc := to }) := HP.out.trans (if_neg hd)
      clear HP
      generalize hk : s1.gs.length = k at *
      have HK := hid hk
      generalize hn : (flat s1.gs ++ s1.lo).length = n at *
      have HN := hid hn
      clear hk hn
      go_wp2_with fail
      have hown : ∀ o, (w1.drew.alloc o).ownsRow B 72 2 (.slice (some ⟨g, 0, none⟩) (k + 1) cap) (k + 1) (cF 0 (s1.gs ++ [(s1.lo, s1.bk)])) := fun o => by
        have := (HA.out.drew.alloc o).fr.own
        rw [HK.out] at this
        exact this
      have HL : Hid (∀ (g2 cap2 : Nat) (o : Obj) (w2 : World), (w1.drew.alloc o).grownBy w2 (Value.ownBlock (.slice (some ⟨g, 0, none⟩) (k + 1) cap)) → w2.ownsRow B 72 2 (.slice (some ⟨g2, 0, none⟩) (k + 1 + 1) cap2) (k + 1 + 1) (cF 0 (s1.gs ++ [(s1.lo, s1.bk)]) ++ [.int .i64 n, .int .i64 s1.pc]) → (Value.ownBlock (.slice (some ⟨g, 0, none⟩) (k + 1) cap) = some g2 ∨ g2 = w1.heap.size + 1) →
          MAt B R c w0 ((w2.setCell ⟨R, 4, none⟩ (.slice (some ⟨g2, 0, none⟩) (k + 1 + 1) cap2)).setCell ⟨R, 1, none⟩ (.int .i64 to)) (grownT (w1.drew.alloc o) T 4) ⟨cv, st, .slice la n lcap, .slice (some ⟨g2, 0, none⟩) (k + 1 + 1) cap2, da, iv, ou⟩ { s1 with gs := s1.gs ++ [(s1.lo, s1.bk)], lo := [], bk := s1.pc, pc := to }) := fun g2 cap2 o w2 hg ho ht => by
        have hb := HA.out.blo
        have hf' := HA.out.bfr
        refine ((HA.out.drew.alloc o).setFr (gs := s1.gs ++ [(s1.lo, s1.bk)]) (l := []) (b := s1.pc) hg ?_ (fun j e hj => lies_at (H := w1.heap.size + 1) ht j e (by simpa using hj)) (by simp) (by rw [len_snoc, HK.out]; omega) ?_ (by rw [flat_snoc, List.append_nil])).setPc to
        · rw [len_snoc, HK.out, cF_snoc, flat_snoc, Nat.zero_add, HN.out]
          exact ho
        · intro f hf
          rcases List.mem_append.1 hf with h | h
          · exact hf' f h
          · rw [List.mem_singleton.1 h]; exact hb
      have HOw := hid hown
      clear hown
      go_region_law (refine step_append_lies _ (by rfl) _ _ _ (by rfl) B 72 i0 _ 2 16 Try.underlying62 hi hz0 hz1 hz2 rfl (by omega) (.slice (some ⟨g, 0, none⟩) (k + 1) cap) (k + 1) (cF 0 (s1.gs ++ [(s1.lo, s1.bk)])) (by rfl) (HOw.out _) ⟨w1.heap.size, 0, none⟩ 1 1 [.int .i64 n, .int .i64 s1.pc] (by rfl) (by rfl) (two_new _ _ _ _) (by simp; exact ⟨rfl, rfl⟩) (by omega) (by unfold maxLen; omega) (by omega) (by have := HA.out.hB; simp; omega) (w1.heap.size + 1) (by simp) ?_; intro g2 cap2 w2 hown1 hg hat hlt2; obtain ⟨fc, ff, fl⟩ := (HA.out.drew.alloc _).far (fun k e => HA.out.fr.mark k e) (by decide) hg; have fc4 := (fc 4).trans (HA.out.drew.alloc _).cell.2.2.2.2.1; have ff4 := ff 4; have fc1 := (fc 1).trans (HA.out.drew.alloc _).cell.2.1; have ff1 := ff 1; have HO := hid hown1; have HG := hid hg; have HT := hid hat; clear hown1 hg hat fc ff)
      all_goals
        go_wp2_with fail
        go_returns
        exact MEnd.ok HP2.out rfl ⟨_, _, HL.out g2 cap2 _ w2 HG.out HO.out HT.out⟩
  · go_wp2_with fail
    exact ⟨rfl, MEnd.of_stop (bind_stop _ HR.out) Hm.out⟩

end Go.Proofs.Ytpahhhhfhnpmjaa
