/-
  PeepTells: its walk over a right image.
-/
import Derived.Test.YtpahhhhfhnpmjaaTb
import Derived.Deep.RegionHeld
namespace Go.Proofs.Ytpahhhhfhnpmjaa
open Go.RowKit Go.Shelf
set_option maxRecDepth 100000

set_option maxHeartbeats 3200000 in
theorem tells_ok (a : Option Addr) (n cap : Nat) (d : Int) (mk : List Bool) (p : List Mc.Ins) (w : World) (hml : mk.length = n) (hpl : p.length = n) (hn : n ≤ 2048)
    (h5 : ∀ W, Below w.heap.size w W → Calls Try.prog 5 #[.agg #[.slice a n cap, .int .i64 d]] W fun e w' => ∃ g, e = .returned (.tuple #[.slice (some ⟨g, 0, none⟩) n n, .int .i64 0]) ∧ BRow w' g mk ∧ Below W.heap.size W w')
    (h6 : ∀ W, Below w.heap.size w W → Calls Try.prog 6 #[.agg #[.slice a n cap, .int .i64 d]] W fun e w' => ∃ g gc, e = .returned (.tuple #[.agg #[.slice (some ⟨g, 0, none⟩) n gc, .int .i64 d], .int .i64 0]) ∧ CRow w' g p ∧ Below W.heap.size W w')
    (h7 : ∀ W, Below w.heap.size w W → Calls Try.prog 7 #[.agg #[.slice a n cap, .int .i64 d]] W fun e w' => e = .returned (.int .i64 0) ∧ Below W.heap.size W w')
    (h8 : ∀ W, Below w.heap.size w W → Calls Try.prog 8 #[.agg #[.slice a n cap, .int .i64 d]] W fun e w' => ∃ g, e = .returned (.slice (some ⟨g, 0, none⟩) n n) ∧ W.heap.size ≤ g ∧ BRow w' g mk ∧ Below W.heap.size W w')
    (h9 : ∀ W, Below w.heap.size w W → Calls Try.prog 9 #[.agg #[.slice a n cap, .int .i64 d]] W fun e w' => ∃ g gc, e = .returned (.agg #[.slice (some ⟨g, 0, none⟩) n gc, .int .i64 d]) ∧ W.heap.size ≤ g ∧ CRow w' g p ∧ Below W.heap.size W w') :
    Calls Try.prog 3 #[.agg #[.slice a n cap, .int .i64 d]] w fun e w' => e = .returned (.bool true) ∧ Below w.heap.size w w' := by
  have H5 := hid h5
  have H6 := hid h6
  have H7 := hid h7
  have H8 := hid h8
  have H9 := hid h9
  have HB := hid peepBegun_any
  have HS : Hid (∀ W g g' c1 c2, CRow W g p → CRow W g' p → Calls Try.prog 11 #[.agg #[.slice (some ⟨g, 0, none⟩) n c1, .int .i64 d], .agg #[.slice (some ⟨g', 0, none⟩) n c2, .int .i64 d]] W fun e w' => e = .returned (.bool true) ∧ Below W.heap.size W w') := fun W g g' c1 c2 h h' => SameImages_same p n hpl _ _ c1 c2 d W h.img h'.img (by omega)
  have HMl := hid hml
  obtain ⟨W0, hW0⟩ : ∃ W0 : World, W0 = w.alloc (.cells #[.slice a n cap, .int .i64 d] 24) := ⟨_, rfl⟩
  have HB0 : Hid (Below w.heap.size w W0) := by rw [hW0]; exact (Below.refl _ _).alloc (Nat.le_refl _) _
  have hs0 : w.heap.size < W0.heap.size := by rw [hW0]; simp
  have x0 : W0.cell? ⟨w.heap.size, 0, none⟩ = some (.slice a n cap) := by rw [hW0]; simp
  have x1 : W0.cell? ⟨w.heap.size, 1, none⟩ = some (.int .i64 d) := by rw [hW0]; simp
  have HW0 := hid hW0
  clear h5 h6 h7 h8 h9 hW0 hml hpl
  go_enter Try.func3, Try.ntmps3
  go_wp2_with fail
  rw [← HW0.out]
  refine (H5.out _ HB0.out).mono ?_
  rintro e w1 ⟨g1, rfl, hr1, hb1⟩
  have i0 := (hb1.cell (p := ⟨w.heap.size, 0, none⟩) hs0).trans x0
  have i1 := (hb1.cell (p := ⟨w.heap.size, 1, none⟩) hs0).trans x1
  have hs1 : w.heap.size < w1.heap.size := by have := hb1.size; omega
  have HB1 := hid (HB0.out.trans (hb1.mono HB0.out.size))
  have HR1 := hid hr1
  clear hb1 x0 x1 hs0 HB0 HW0 hr1
  go_wp2_with fail
  refine (H6.out _ HB1.out).mono ?_
  rintro e w2 ⟨g2, gc2, rfl, hc2, hb2⟩
  have j0 := (hb2.cell (p := ⟨w.heap.size, 0, none⟩) hs1).trans i0
  have j1 := (hb2.cell (p := ⟨w.heap.size, 1, none⟩) hs1).trans i1
  have hs2 : w.heap.size < w2.heap.size := by have := hb2.size; omega
  have HB2 := hid (HB1.out.trans (hb2.mono HB1.out.size))
  have HR2 := hid (HR1.out.later hb2)
  have HC2 := hid hc2
  clear hb2 i0 i1 hs1 HB1 HR1 hc2
  have HU : Hid (∀ o, Below w.heap.size w (w2.alloc o)) := fun o => HB2.out.alloc HB2.out.size _
  go_wp2_with fail
  refine (H7.out _ (HU.out _)).mono ?_
  rintro e w3 ⟨rfl, hb3⟩
  have HT := hid (tl_mk (cap := cap) HB2.out hs2 j0 j1 HR2.out HC2.out hb3)
  clear hb3 HB2 j0 j1 HR2 HC2 hs2 HU
  go_wp2_with fail
  generalize w3.alloc (.cells #[.slice none 0 0, .int .i64 0] 24) = W5 at *
  generalize w3.heap.size = zb at *
  generalize w2.heap.size = pb at *
  have HT5 := hid (HT.out.later (Below.refl _ _).drew)
  have wz := HT.out.wz
  have wz1 : ¬ w.heap.size = zb := by omega
  have wz2 : ¬ zb = w.heap.size := by omega
  have FF := hid (⟨HT5.out.i0, HT5.out.i1⟩ : _ ∧ _)
  have i0 := HT.out.i0
  have i1 := HT.out.i1
  clear wz
  go_region_held (fun W => W.cell? ⟨w.heap.size, 0, none⟩ = some (.slice a n cap) ∧ W.cell? ⟨w.heap.size, 1, none⟩ = some (.int .i64 d)) (first | (go_keep; done) | exact FF.out)
    (first
    | (go_at_call 8; refine (H8.out _ HT5.out.below).mono ?_; rintro e w6 ⟨gm, rfl, hgm, hrm, hb6⟩; have HT6 := hid (HT5.out.later hb6); have FF := hid (⟨HT6.out.i0, HT6.out.i1⟩ : _ ∧ _); have HRm := hid hrm; have HGm := hid (show ¬ gm = zb by have := HT5.out.zw; omega); have i0 := HT6.out.i0; have i1 := HT6.out.i1; clear hgm hrm hb6)
    | (go_at_call 9; refine (H9.out _ HT6.out.below).mono ?_; rintro e w7 ⟨gp, gpc, rfl, hgp, hcp, hb7⟩; have HT7 := hid (HT6.out.later hb7); have FF := hid (⟨HT7.out.i0, HT7.out.i1⟩ : _ ∧ _); have HRn := hid (HRm.out.later hb7); have HGp := hid (show ¬ gp = zb by have := HT6.out.zw; omega); have HCp := hid hcp; have i0 := HT7.out.i0; have i1 := HT7.out.i1; have z0 := HT7.out.z0; have z1 := HT7.out.z1; have q0 := HT7.out.q0; have q1 := HT7.out.q1; clear hgp hcp hb7))
  all_goals
    have HM := hid (tm_mk (gpc := gpc) HT7.out HRn.out HCp.out HGm.out HGp.out)
    generalize (w7.setCell ⟨zb, 0, none⟩ (.slice (some ⟨gp, 0, none⟩) n gpc)).setCell ⟨zb, 1, none⟩ (.int .i64 d) = W8 at *
    clear HT HT5 HT6 HT7 HRm HRn HCp HGm HGp FF wz1 wz2
    go_wp2_with fail
    go_loopw [10] (fun u wr => ∃ k : Nat, k ≤ n ∧ u = .int .i64 k ∧ Tm n d w pb zb g1 g2 gc2 gm gp gpc mk p wr) (fun u _ => n - (intOf u).toNat)
    case atStart => exact ⟨0, Nat.zero_le _, rfl, HM.out⟩
    case round =>
      obtain ⟨k, hk, rfl, hP⟩ := hrel
      have HP := hid hP
      clear HM
      by_cases hlt : k < n
      · have m1 := hP.mr.cell k (by rw [HMl.out]; exact hlt)
        have m2 := hP.mo.cell k (by rw [HMl.out]; exact hlt)
        have hlt' : (k : Int) < (n : Int) := by omega
        have hk0 : (0 : Int) ≤ (k : Int) := by omega
        generalize mk.getD k true = y at *
        clear hP
        go_wp2_with (go_quiet (fail))
        go_roundw
        case rel => exact ⟨k + 1, by omega, by go_num, HP.out.later (below_drewN (Below.refl _ _) _)⟩
        case measure => simp [intOf]; omega
      · obtain rfl : k = n := by omega
        clear hP hlt
        go_wp2_with fail
        refine (HB.out _).mono ?_
        rintro e w9 ⟨rfl, hb9⟩
        have HQ := hid (HP.out.later hb9)
        have p0 := HQ.out.p0
        have p1 := HQ.out.p1
        have z0 := HQ.out.z0
        have z1 := HQ.out.z1
        clear hb9 HP
        go_wp2_with (go_at_call 11; refine (HS.out _ _ _ _ _ HQ.out.pr HQ.out.po).mono ?_; rintro e w10 ⟨rfl, hb10⟩; have HZ := hid (HQ.out.below.trans (hb10.mono HQ.out.below.size)); clear hb10)
        go_ret
        exact ⟨rfl, HZ.out⟩

end Go.Proofs.Ytpahhhhfhnpmjaa
