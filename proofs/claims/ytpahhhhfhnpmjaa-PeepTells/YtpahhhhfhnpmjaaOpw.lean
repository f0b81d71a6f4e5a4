/-
  The machine's return: a frame fewer.
-/
import Derived.Test.YtpahhhhfhnpmjaaOpu
import Derived.Deep.RegionLaw
namespace Go.Proofs.Ytpahhhhfhnpmjaa
open Go.RowKit
set_option maxRecDepth 100000

/- one frame fewer: the rows of the frames and of the locals are cut, and the machine goes on where the frame tells -/
theorem MAt.cutFrame {B R : Nat} {c : Mc.Cfg} {w0 w : World} {T : Nat → Nat} {v : Vs} {s : Mc.St} {hs : List (List Int × Int)} {f : List Int × Int} {fa la : Option Addr} {fc lc : Nat} (h : MAt B R c w0 w T v s) (hgs : s.gs = hs ++ [f])
    (hf : v.fr = .slice fa (s.gs.length + 1) fc) (hl : v.lo = .slice la (flat s.gs ++ s.lo).length lc) :
    MAt B R c w0 (((w.setCell ⟨R, 4, none⟩ (.slice fa (hs.length + 1) fc)).setCell ⟨R, 3, none⟩ (.slice la (flat s.gs).length lc)).setCell ⟨R, 1, none⟩ (.int .i64 s.bk)) T { v with fr := .slice fa (hs.length + 1) fc, lo := .slice la (flat s.gs).length lc } { s with gs := hs, lo := f.1, bk := f.2, pc := s.bk } := by
  have hk : ∀ m, m ≠ 1 → ∀ k, k < w.heap.size → T k = m → (((w.setCell ⟨R, 4, none⟩ (.slice fa (hs.length + 1) fc)).setCell ⟨R, 3, none⟩ (.slice la (flat s.gs).length lc)).setCell ⟨R, 1, none⟩ (.int .i64 s.bk)).heap[k]? = w.heap[k]? := fun m hm k _ e => by
    have hne : k ≠ R := fun e' => by subst e'; exact hm (e.symm.trans h.tR)
    rw [Below.heap_setCell _ _ _ k hne, Below.heap_setCell _ _ _ k hne, Below.heap_setCell _ _ _ k hne]
  have hflat : flat hs ++ f.1 = flat s.gs := by rw [hgs, flat_snoc]
  have hlen : s.gs.length = hs.length + 1 := by rw [hgs, len_snoc]
  have hbg := h.bgs
  exact { h with
    blk := by rw [heap_set (heap_set (heap_set h.blk _) _) _]; rfl
    st := h.st.keep (hk 2 (by decide)) (fun _ _ e => e)
    lo := by
      have h1 := (h.lo.cut (m := (flat s.gs).length) (by rw [List.length_append]; omega) hl).keep (hk 3 (by decide)) (fun _ _ e => e)
      rw [Nat.mul_one, ints_take, List.take_left] at h1
      rw [hflat]
      exact h1
    fr := by
      have h1 := (h.fr.cut (m := hs.length + 1) (by omega) hf).keep (hk 4 (by decide)) (fun _ _ e => e)
      have e : (cF 0 (s.gs ++ [(s.lo, s.bk)])).take ((hs.length + 1) * 2) = cF 0 (hs ++ [f]) := by rw [← hlen, cF_take, hgs]
      rw [e] at h1
      exact h1
    da := h.da.keep (hk 5 (by decide)) (fun _ _ e => e)
    ou := h.ou.keep (hk 6 (by decide)) (fun _ _ e => e)
    below := ((h.below.setCell (p := ⟨R, 4, none⟩) h.hR _).setCell (p := ⟨R, 3, none⟩) h.hR _).setCell (p := ⟨R, 1, none⟩) h.hR _
    bgs := by show hs.length ≤ 24; omega
    bfr := fun g hg => h.bfr g (by rw [hgs]; exact List.mem_append.2 (Or.inl hg))
    blo := h.bfr f (by rw [hgs]; exact List.mem_append.2 (Or.inr (List.mem_singleton.2 rfl))) }

set_option maxHeartbeats 800000 in
theorem ret_any (B R : Nat) (c : Mc.Cfg) (w0 : World) (s : Mc.St) (w : World) (h : Mch B R c w0 w s) :
    Calls Try.prog 56 #[.pointer (some ⟨R, 0, none⟩)] w (MEnd B R c w0 (Mc.ret s) unitV) := by
  have HM : Hid (Mch B R c w0 w s) := h
  obtain ⟨T, ⟨cv, st, lo, fr, da, iv, ou⟩, h⟩ := h
  obtain ⟨g, cap, hv, hcap, hmax, hBg, hgl, hmk, hfz, hcell⟩ := h.fr.place (by omega)
  simp only at hv
  subst hv
  obtain ⟨la, lcap, hv, hlcap, hlmax⟩ := h.lo.form
  simp only at hv
  subst hv
  have HA : Hid (MAt B R c w0 w T ⟨cv, st, .slice la (flat s.gs ++ s.lo).length lcap, .slice (some ⟨g, 0, none⟩) (s.gs.length + 1) cap, da, iv, ou⟩ s) := h
  have HT : Hid (Calls Try.prog 60 #[.pointer (some ⟨R, 0, none⟩)] w fun e w' => e = .returned (.agg #[.int .i64 ((flat s.gs).length : Nat), .int .i64 s.bk]) ∧ Below w.heap.size w w') := top_any B R c w0 s w T _ h
  have hgs := h.bgs
  have hll := h.locals_le
  have hRl := h.ltR
  obtain ⟨-, c1, -, c3, c4, -, -, -, -, -, -, -, -, hf⟩ := h.cell
  simp only at c3 c4
  unfold maxLen at hmax hlmax
  clear hcell h
  cases hl : s.gs.getLast? with
  | none =>
    have HP : Hid (Mc.ret s = .stop { s with en := 6 }) := by show Mc.ret s = _; unfold Mc.ret; rw [hl]; rfl
    have h0 : s.gs.length = 0 := by rw [List.getLast?_eq_none_iff.1 hl]; rfl
    rw [h0] at c4
    clear hl h0 HA HT
    go_enter Try.func56, Try.ntmps56
    go_wp2_with fail
    refine (broken_any _ _ (by first | rfl | (simp; done) | (simp; omega)) HM.out).mono ?_
    rintro e w2 ⟨rfl, hm⟩
    go_wp2_with fail
    exact ⟨rfl, MEnd.stop HP.out rfl hm⟩
  | some f =>
    have HP : Hid (Mc.ret s = .ok () { s with gs := s.gs.dropLast, lo := f.1, bk := f.2, pc := s.bk }) := by show Mc.ret s = _; unfold Mc.ret; rw [hl]
    have HG : Hid (s.gs = s.gs.dropLast ++ [f]) := by
      show s.gs = _
      obtain ⟨ys, e⟩ := List.getLast?_eq_some_iff.1 hl
      rw [e, List.dropLast_concat]
    generalize hk : s.gs.dropLast.length = k at *
    have hk1 : s.gs.length = k + 1 := by rw [HG.out, len_snoc, hk]
    have HK := hid hk
    have HK1 := hid hk1
    rw [hk1] at c4 hcap hgs
    generalize hm : (flat s.gs).length = m at *
    have HMm := hid hm
    have hn : (flat s.gs ++ s.lo).length = m + s.lo.length := by rw [List.length_append, hm]
    rw [hn] at c3 hlcap hll
    generalize s.lo.length = n at *
    have HN := hid hn
    clear hl hk hk1 hm hn
    go_enter Try.func56, Try.ntmps56
    go_wp2_with fail
    refine (must_yes _ _ _ (by first | (simp; done) | (simp; omega))).mono ?_
    rintro e w' ⟨rfl, rfl⟩
    go_wp2_with fail
    refine HT.out.mono ?_
    rintro e w1 ⟨rfl, hb⟩
    have d1 := (hb.cell (p := ⟨R, 1, none⟩) hRl).trans c1
    have d3 := (hb.cell (p := ⟨R, 3, none⟩) hRl).trans c3
    have d4 := (hb.cell (p := ⟨R, 4, none⟩) hRl).trans c4
    have e1 := (hb.frozen (p := ⟨R, 1, none⟩) hRl).trans (hf 1)
    have e3 := (hb.frozen (p := ⟨R, 3, none⟩) hRl).trans (hf 3)
    have e4 := (hb.frozen (p := ⟨R, 4, none⟩) hRl).trans (hf 4)
    have hz := hb.size
    have hR1 : R < w1.heap.size := by omega
    have hne := (Nat.ne_of_lt hR1)
    go_wp2_with fail
    go_region
    go_wp2_with fail
    go_region
    go_wp2_with fail
    go_returns
    have h1 := (HA.out.later hb HA.out.hB).cutFrame HG.out rfl rfl
    rw [HK.out, HMm.out] at h1
    exact MEnd.ok HP.out rfl ⟨_, _, ((h1.alloc _).drew).drew⟩

end Go.Proofs.Ytpahhhhfhnpmjaa
