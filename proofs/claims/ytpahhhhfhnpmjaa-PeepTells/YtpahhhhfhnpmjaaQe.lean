/-
  A jump to a jump; what is laid.
-/
import Derived.Test.YtpahhhhfhnpmjaaQd
import Derived.Deep.RegionHeld3
namespace Go.Proofs.Ytpahhhhfhnpmjaa
open Go.RowKit Go.Shelf
set_option maxRecDepth 100000

theorem CRow.drew {w : World} {g : Nat} {c : List Mc.Ins} (h : CRow w g c) : CRow w.drew g c := ⟨h.lt, h.op, h.a, h.b, h.fz⟩

set_option maxHeartbeats 1600000 in
theorem shorten_any (wa : Option Addr) (g m n wc gc mc : Nat) (was c : List Mc.Ins) (mk : List Bool) (i : Nat) (w : World) (h : Hole w wa g m was c mk) (hn : n = was.length) (hi : i < n) :
    Calls Try.prog 32 #[.agg #[.slice wa n wc, .slice (some ⟨g, 0, none⟩) n gc, .slice (some ⟨m, 0, none⟩) n mc], .int .i64 i] w fun e w' => e = .returned (.tuple #[]) ∧ CRow w' g (Mc.shorten was c i) ∧ w.grownBy w' (some g) := by
  obtain ⟨W0, hW0⟩ : ∃ W0 : World, W0 = w.alloc (.cells #[.slice wa n wc, .slice (some ⟨g, 0, none⟩) n gc, .slice (some ⟨m, 0, none⟩) n mc] 47) := ⟨_, rfl⟩
  have hb0 : Below w.heap.size w W0 := by rw [hW0]; exact (Below.refl _ _).alloc (Nat.le_refl _) _
  have HX0 : Hid (W0.cell? ⟨w.heap.size, 0, none⟩ = some (.slice wa n wc)) := by show _ = _; rw [hW0]; simp
  have HX1 : Hid (W0.cell? ⟨w.heap.size, 1, none⟩ = some (.slice (some ⟨g, 0, none⟩) n gc)) := by show _ = _; rw [hW0]; simp
  have HW0 := hid hW0
  have HG0 : Hid (w.grownBy W0 (some g)) := grown_below _ hb0
  have HB0 := hid hb0
  have HLc : Hid (c.length = n) := by rw [hn]; exact h.lc
  have hlen : n ≤ 2048 := by rw [hn]; exact h.len
  have HC : Hid (CRow W0 g c) := (h.later hb0).code
  have hgw : g < w.heap.size := h.code.lt
  obtain ⟨b, off, rfl, hbl, hold⟩ := h.old.get h.pos
  have hbg := h.apart b off rfl
  have c0 := h.code.op i (by rw [HLc.out]; exact hi)
  have c1 := h.code.a i (by rw [HLc.out]; exact hi)
  have f1 := h.code.fz (i * 3 + 1) (by rw [HLc.out]; omega)
  have HCa := hid (HC.out.a i (by rw [HLc.out]; exact hi))
  have HCf := hid (HC.out.fz (i * 3 + 1) (by rw [HLc.out]; omega))
  have HSh : Hid (∀ x, Mc.shortB was (c.getD i Mc.dI) i = x → Mc.shorten was c i = if x then c.set i { c.getD i Mc.dI with a := (was.getD (c.getD i Mc.dI).a.toNat Mc.dI).a } else c) := fun x hx => by unfold Mc.shorten; rw [hx]
  have HSe : Hid (∀ v, CRow (W0.setCell ⟨g, i * 3 + 1, none⟩ (.int .i64 v)) g (c.set i ⟨(c.getD i Mc.dI).op, v, (c.getD i Mc.dI).b⟩)) := fun v => HC.out.setA i (by rw [HLc.out]; exact hi) v
  have HSB : Hid (Mc.shortB was (c.getD i Mc.dI) i = (decide (0 ≤ (c.getD i Mc.dI).a) && decide ((c.getD i Mc.dI).a < n) && !decide ((c.getD i Mc.dI).a = i) && decide ((was.getD (c.getD i Mc.dI).a.toNat Mc.dI).op = 11))) := by show _ = _; unfold Mc.shortB; rw [hn]
  have HNn := hid hn
  clear hW0 hb0 h hn
  generalize c.getD i Mc.dI = x at *
  obtain ⟨op, ta, tb⟩ := x
  simp only at c0 c1 HSh HSe HSB HCa
  by_cases h1 : 0 ≤ ta
  · obtain ⟨t, rfl⟩ := Int.eq_ofNat_of_zero_le h1
    by_cases h2 : t < n
    · by_cases h3 : t = i
      · have HN := hid (HSh.out false (by rw [HSB.out]; simp [h3]))
        subst h3
        clear HSB HSh hold
        go_enter Try.func32, Try.ntmps32
        go_wp2_with fail
        rw [← HW0.out]
        go_returns
        exact ⟨rfl, by rw [HN.out]; exact HC.out, HG0.out⟩
      · obtain ⟨o0, o1, -⟩ := hold t (by rw [← HNn.out]; exact h2)
        by_cases h4 : (was.getD t Mc.dI).op = 11
        · have HN : Hid (Mc.shorten was c i = c.set i ⟨op, (was.getD ((t : Int)).toNat Mc.dI).a, tb⟩) := (HSh.out true (by
            have e1 : (t : Int) < n := by omega
            have e2 : ¬ (t : Int) = i := by omega
            rw [HSB.out, Int.toNat_natCast, h4]
            simp [e1, e2])).trans (if_pos rfl)
          rw [h4] at o0
          rw [Int.toNat_natCast] at HN
          replace HSe := hid (HSe.out (was.getD t Mc.dI).a)
          generalize was.getD t Mc.dI = y at *
          obtain ⟨yo, ya, yb⟩ := y
          simp only at o0 o1 HN HSe
          have HO1 : Hid (W0.cell? ⟨b, off + t * 3 + 1, none⟩ = some (.int .i64 ya)) := (HB0.out.cell (p := ⟨b, off + t * 3 + 1, none⟩) hbl).trans o1
          clear HSB HSh hold h4
          go_enter Try.func32, Try.ntmps32
          go_wp2_with fail
          rw [← HW0.out]
          have x0 := HX0.out
          have x1 := HX1.out
          have x2 := HO1.out
          have x3 := HCa.out
          have x4 := HCf.out
          clear c0 c1 f1 o0 o1
          have n1 : ¬ w.heap.size = g := by omega
          have n2 : ¬ g = w.heap.size := by omega
          have n3 : ¬ g = b := fun e => hbg e.symm
          have ht0 : (0 : Int) ≤ (t : Int) := by omega
          have ht1 : (t : Int) < (n : Int) := by omega
          have hi0 : (0 : Int) ≤ (i : Int) := by omega
          have hi1 : (i : Int) < (n : Int) := by omega
          go_region_held3 (fun W => W.cell? ⟨w.heap.size, 0, none⟩ = some (.slice (some ⟨b, off, none⟩) n wc) ∧ W.cell? ⟨w.heap.size, 1, none⟩ = some (.slice (some ⟨g, 0, none⟩) n gc) ∧ W.cell? ⟨b, off + t * 3 + 1, none⟩ = some (.int .i64 ya)) (go_keep) (fail)
          all_goals
            go_wp2_with fail
            go_returns
            refine ⟨rfl, by rw [HN.out]; first | exact HSe.out | exact HSe.out.drew, ?_⟩
            first | exact grown_set HG0.out rfl | exact grown_drew (grown_set HG0.out rfl)
        · have HN := hid (HSh.out false (by rw [HSB.out, Int.toNat_natCast]; simp only [h4, decide_false, Bool.and_false]))
          generalize was.getD t Mc.dI = y at *
          obtain ⟨yo, ya, yb⟩ := y
          simp only at o0 o1 h4
          have h4' : (yo == 11) = false := beq_eq_false_iff_ne.2 h4
          clear HSB HSh hold
          go_enter Try.func32, Try.ntmps32
          go_wp2_with fail
          rw [← HW0.out]
          go_returns
          exact ⟨rfl, by rw [HN.out]; exact HC.out, HG0.out⟩
    · have e1 : ¬ (t : Int) < n := by omega
      have HN := hid (HSh.out false (by rw [HSB.out]; simp [e1]))
      clear e1
      clear HSB HSh hold
      go_enter Try.func32, Try.ntmps32
      go_wp2_with fail
      rw [← HW0.out]
      go_returns
      exact ⟨rfl, by rw [HN.out]; exact HC.out, HG0.out⟩
  · have HN := hid (HSh.out false (by rw [HSB.out]; simp [h1]))
    clear HSB HSh hold
    go_enter Try.func32, Try.ntmps32
    go_wp2_with fail
    rw [← HW0.out]
    go_returns
    exact ⟨rfl, by rw [HN.out]; exact HC.out, HG0.out⟩

/- copy of instructions -/
theorem info51 : (Try.prog.info? 51).map (fun i => (i.zero, i.size, i.bytes)) = some (some (.agg #[.int .i64 0, .int .i64 0, .int .i64 0]), 3, 24) := by kernel_rfl
theorem run_copy_ins (w : World) (ty : TypeId) (b o dLen dCap : Nat) (a : Addr) (sLen sCap : Nat) (cs : List Value) (hn : cs.length = sLen * 3) (hle : sLen ≤ dLen)
    (hsrc : ∀ j v, cs[j]? = some v → w.cell? (a.add j) = some v) (hc : ∀ j, j < cs.length → (w.cell? ⟨b, o + j, none⟩).isSome = true) (hf : ∀ j, j < cs.length → w.frozen? ⟨b, o + j, none⟩ = false) (h1 : ∀ v ∈ cs, v.oneCell' = true) :
    (Builtin.copy_ #[22, 22] ty #[.slice (some ⟨b, o, none⟩) dLen dCap, .slice (some a) sLen sCap]).run Try.prog w = .ok (goInt sLen) (w.setCells b o cs) := by
  have hl := run_loadCells_list (P := Try.prog) w a cs hsrc
  have hst := run_storeCells_cells (P := Try.prog) b o cs 0 w (by simpa using hc) (by simpa using hf) h1
  obtain ⟨i0, hi, hz0, hz1, hz2⟩ := info_parts info51
  have hmin : Nat.min sLen dLen = sLen := Nat.min_eq_left hle
  simp [Builtin.copy_, run_underlying Try.underlying22, Builtin.lenOf, Builtin.firstCells, sizeOf, typeInfo, hi, hz1, hmin, ← hn, hl, hst]

namespace Mc
def lay2' (c : List Ins) (i : Nat) (y0 y1 : Ins) : List Ins := (c.set i y0).set (i + 1) y1
def lay3' (c : List Ins) (i : Nat) (y0 y1 y2 : Ins) : List Ins := ((c.set i y0).set (i + 1) y1).set (i + 2) y2
end Mc
def cellsI (y : Mc.Ins) : List Value := [.int .i64 y.op, .int .i64 y.a, .int .i64 y.b]
theorem setCells2 (W : World) (g i : Nat) (y0 y1 : Mc.Ins) : W.setCells g (i * 3) (cellsI y0 ++ cellsI y1) = put3 (put3 W g i y0) g (i + 1) y1 := by
  unfold cellsI put3
  rw [show (i + 1) * 3 = i * 3 + 3 by omega]
  simp [World.setCells]
theorem setCells3 (W : World) (g i : Nat) (y0 y1 y2 : Mc.Ins) : W.setCells g (i * 3) (cellsI y0 ++ cellsI y1 ++ cellsI y2) = put3 (put3 (put3 W g i y0) g (i + 1) y1) g (i + 2) y2 := by
  unfold cellsI put3
  rw [show (i + 1) * 3 = i * 3 + 3 by omega, show (i + 2) * 3 = i * 3 + 6 by omega]
  simp [World.setCells]
theorem CRow.some {w : World} {g : Nat} {c : List Mc.Ins} (h : CRow w g c) (j : Nat) (hj : j < c.length * 3) : (w.cell? ⟨g, j, none⟩).isSome = true := by
  obtain ⟨q, r, hr, rfl⟩ : ∃ q r, r < 3 ∧ j = q * 3 + r := ⟨j / 3, j % 3, by omega, by omega⟩
  match r, hr with
  | 0, _ => rw [Nat.add_zero, h.op q (by omega)]; rfl
  | 1, _ => rw [h.a q (by omega)]; rfl
  | 2, _ => rw [h.b q (by omega)]; rfl
theorem cellsI_one (y : Mc.Ins) : ∀ v ∈ cellsI y, v.oneCell' = true := by
  intro v hv
  simp [cellsI] at hv
  rcases hv with rfl | rfl | rfl <;> rfl

set_option maxHeartbeats 1600000 in
theorem lay2_any (wa : Option Addr) (g m n wc gc mc : Nat) (was c : List Mc.Ins) (mk : List Bool) (i lb lc : Nat) (y0 y1 : Mc.Ins) (w : World) (h : Hole w wa g m was c mk) (hn : n = was.length) (hi : i + 1 < n) (hgc : n ≤ gc)
    (hsrc : ∀ j v, (cellsI y0 ++ cellsI y1)[j]? = some v → w.cell? ⟨lb, j, none⟩ = some v) (hlb : lb < w.heap.size) :
    Calls Try.prog 35 #[.agg #[.slice wa n wc, .slice (some ⟨g, 0, none⟩) n gc, .slice (some ⟨m, 0, none⟩) n mc], .int .i64 i, .slice (some ⟨lb, 0, none⟩) 2 lc] w fun e w' => e = .returned (.tuple #[]) ∧ CRow w' g (Mc.lay2' c i y0 y1) ∧ w.grownBy w' (some g) := by
  obtain ⟨W0, hW0⟩ : ∃ W0 : World, W0 = w.alloc (.cells #[.slice wa n wc, .slice (some ⟨g, 0, none⟩) n gc, .slice (some ⟨m, 0, none⟩) n mc] 47) := ⟨_, rfl⟩
  have hb0 : Below w.heap.size w W0 := by rw [hW0]; exact (Below.refl _ _).alloc (Nat.le_refl _) _
  have HC : CRow W0 g c := (h.later hb0).code
  have hlc : c.length = n := by rw [hn]; exact h.lc
  have hlen : n ≤ 2048 := by rw [hn]; exact h.len
  have HN : Hid (∀ ty dc, (Builtin.copy_ #[22, 22] ty #[.slice (some ⟨g, i * 3, none⟩) (n - i) dc, .slice (some ⟨lb, 0, none⟩) 2 lc]).run Try.prog W0 = .ok (goInt 2) (put3 (put3 W0 g i y0) g (i + 1) y1)) := fun ty dc => by
    rw [← setCells2]
    refine run_copy_ins W0 ty g (i * 3) (n - i) dc ⟨lb, 0, none⟩ 2 lc (cellsI y0 ++ cellsI y1) rfl (by omega) ?_ ?_ ?_ ?_
    · intro j v hj
      rw [show (⟨lb, 0, none⟩ : Addr).add j = ⟨lb, j, none⟩ from by unfold Addr.add; split <;> simp_all]
      exact (hb0.cell (p := ⟨lb, j, none⟩) hlb).trans (hsrc j v hj)
    · intro j hj
      exact HC.some _ (by simp [cellsI] at hj; omega)
    · intro j hj
      exact HC.fz _ (by simp [cellsI] at hj; omega)
    · intro v hv
      rcases List.mem_append.1 hv with hv | hv
      · exact cellsI_one _ v hv
      · exact cellsI_one _ v hv
  have HF : Hid (CRow (put3 (put3 W0 g i y0) g (i + 1) y1) g (Mc.lay2' c i y0 y1)) := (HC.put3 i (by omega) y0).put3 (i + 1) (by rw [List.length_set]; omega) y1
  have HG : Hid (w.grownBy (put3 (put3 W0 g i y0) g (i + 1) y1) (some g)) := grown_trans (grown_trans (grown_below _ hb0) (put3_grown _ _ _ _)) (put3_grown _ _ _ _)
  rw [hW0] at HN HF HG
  clear hW0 hb0 h hn HC hlc hsrc
  have hni : (i : Int) ≤ (n : Int) := by omega
  have hcp := HN.out
  go_enter Try.func35, Try.ntmps35
  go_wp2_with fail
  go_returns
  exact ⟨rfl, HF.out, HG.out⟩

set_option maxHeartbeats 1600000 in
theorem lay3_any (wa : Option Addr) (g m n wc gc mc : Nat) (was c : List Mc.Ins) (mk : List Bool) (i lb lc : Nat) (y0 y1 y2 : Mc.Ins) (w : World) (h : Hole w wa g m was c mk) (hn : n = was.length) (hi : i + 2 < n) (hgc : n ≤ gc)
    (hsrc : ∀ j v, (cellsI y0 ++ cellsI y1 ++ cellsI y2)[j]? = some v → w.cell? ⟨lb, j, none⟩ = some v) (hlb : lb < w.heap.size) :
    Calls Try.prog 35 #[.agg #[.slice wa n wc, .slice (some ⟨g, 0, none⟩) n gc, .slice (some ⟨m, 0, none⟩) n mc], .int .i64 i, .slice (some ⟨lb, 0, none⟩) 3 lc] w fun e w' => e = .returned (.tuple #[]) ∧ CRow w' g (Mc.lay3' c i y0 y1 y2) ∧ w.grownBy w' (some g) := by
  obtain ⟨W0, hW0⟩ : ∃ W0 : World, W0 = w.alloc (.cells #[.slice wa n wc, .slice (some ⟨g, 0, none⟩) n gc, .slice (some ⟨m, 0, none⟩) n mc] 47) := ⟨_, rfl⟩
  have hb0 : Below w.heap.size w W0 := by rw [hW0]; exact (Below.refl _ _).alloc (Nat.le_refl _) _
  have HC : CRow W0 g c := (h.later hb0).code
  have hlc : c.length = n := by rw [hn]; exact h.lc
  have hlen : n ≤ 2048 := by rw [hn]; exact h.len
  have HN : Hid (∀ ty dc, (Builtin.copy_ #[22, 22] ty #[.slice (some ⟨g, i * 3, none⟩) (n - i) dc, .slice (some ⟨lb, 0, none⟩) 3 lc]).run Try.prog W0 = .ok (goInt 3) (put3 (put3 (put3 W0 g i y0) g (i + 1) y1) g (i + 2) y2)) := fun ty dc => by
    rw [← setCells3]
    refine run_copy_ins W0 ty g (i * 3) (n - i) dc ⟨lb, 0, none⟩ 3 lc (cellsI y0 ++ cellsI y1 ++ cellsI y2) rfl (by omega) ?_ ?_ ?_ ?_
    · intro j v hj
      rw [show (⟨lb, 0, none⟩ : Addr).add j = ⟨lb, j, none⟩ from by unfold Addr.add; split <;> simp_all]
      exact (hb0.cell (p := ⟨lb, j, none⟩) hlb).trans (hsrc j v hj)
    · intro j hj
      exact HC.some _ (by simp [cellsI] at hj; omega)
    · intro j hj
      exact HC.fz _ (by simp [cellsI] at hj; omega)
    · intro v hv
      rcases List.mem_append.1 hv with hv | hv
      · rcases List.mem_append.1 hv with hv | hv
        · exact cellsI_one _ v hv
        · exact cellsI_one _ v hv
      · exact cellsI_one _ v hv
  have HF : Hid (CRow (put3 (put3 (put3 W0 g i y0) g (i + 1) y1) g (i + 2) y2) g (Mc.lay3' c i y0 y1 y2)) := ((HC.put3 i (by omega) y0).put3 (i + 1) (by rw [List.length_set]; omega) y1).put3 (i + 2) (by rw [List.length_set, List.length_set]; omega) y2
  have HG : Hid (w.grownBy (put3 (put3 (put3 W0 g i y0) g (i + 1) y1) g (i + 2) y2) (some g)) := grown_trans (grown_trans (grown_trans (grown_below _ hb0) (put3_grown _ _ _ _)) (put3_grown _ _ _ _)) (put3_grown _ _ _ _)
  rw [hW0] at HN HF HG
  clear hW0 hb0 h hn HC hlc hsrc
  have hni : (i : Int) ≤ (n : Int) := by omega
  have hcp := HN.out
  go_enter Try.func35, Try.ntmps35
  go_wp2_with fail
  go_returns
  exact ⟨rfl, HF.out, HG.out⟩

end Go.Proofs.Ytpahhhhfhnpmjaa
