/-
  The reference's smallest functions, and its marks.
-/
import Derived.Test.YtpahhhhfhnpmjaaRa
namespace Go.Proofs.Ytpahhhhfhnpmjaa
open Go.RowKit Go.Shelf
set_option maxRecDepth 100000

theorem rtruth_any (b : Bool) (w : World) : Calls Try.prog 23 #[.bool b] w fun en w' => en = .returned (.int .i64 (Mc.truth b)) ∧ w' = w := by
  cases b
  all_goals
    go_enter Try.func23, Try.ntmps23
    go_wp2_with fail
    go_ret
    exact ⟨rfl, rfl⟩
theorem rfolds_any (op : Int) (w : World) : Calls Try.prog 21 #[.int .i64 op] w fun e w' => e = .returned (.bool (Mc.foldsB op)) ∧ w' = w := by
  by_cases h9 : op = 9
  · subst h9
    go_enter Try.func21, Try.ntmps21
    go_wp2_with fail
    go_ret
    exact ⟨rfl, rfl⟩
  by_cases h10 : op = 10
  · subst h10
    go_enter Try.func21, Try.ntmps21
    go_wp2_with fail
    go_ret
    exact ⟨rfl, rfl⟩
  by_cases h11 : op = 11
  · subst h11
    go_enter Try.func21, Try.ntmps21
    go_wp2_with fail
    go_ret
    exact ⟨rfl, rfl⟩
  by_cases h14 : op = 14
  · subst h14
    go_enter Try.func21, Try.ntmps21
    go_wp2_with fail
    go_ret
    exact ⟨rfl, rfl⟩
  have HE : Hid (Mc.foldsB op = (op == 15)) := by show _ = _; unfold Mc.foldsB; simp [h9, h10, h11, h14]; rfl
  have b9 : (op == 9) = false := beq_eq_false_iff_ne.2 h9
  have b10 : (op == 10) = false := beq_eq_false_iff_ne.2 h10
  have b11 : (op == 11) = false := beq_eq_false_iff_ne.2 h11
  have b14 : (op == 14) = false := beq_eq_false_iff_ne.2 h14
  rw [HE.out]
  clear h9 h10 h11 h14 HE
  go_enter Try.func21, Try.ntmps21
  go_wp2_with fail
  go_ret
  exact ⟨rfl, rfl⟩
theorem rmath_any (op a b : Int) (w : World) (h : Mc.foldsB op = true) : Calls Try.prog 22 #[.int .i64 op, .int .i64 a, .int .i64 b] w fun en w' => en = .returned (.tuple #[.int .i64 (Mc.known op a b), .bool true]) ∧ w' = w := by
  unfold Mc.foldsB at h
  simp only [Bool.or_eq_true, decide_eq_true_eq] at h
  rcases h with (((h | h) | h) | h) | h
  all_goals
    subst h
    go_enter Try.func22, Try.ntmps22
    go_wp2_with (go_at_call 23; refine (rtruth_any _ _).mono ?_; rintro e w' ⟨rfl, rfl⟩)
    go_ret2
    exact ⟨rfl, rfl⟩

/- the marks under way -/
structure Mk (w : World) (v : Value) (W : World) (l : List Bool) (n : Nat) : Prop where
  row : BRow W (w.heap.size + 1) l
  below : Below w.heap.size w W
  box : W.cell? ⟨w.heap.size, 0, none⟩ = some v
  sz : w.heap.size + 2 ≤ W.heap.size
  len : l.length = n
theorem Mk.alloc {w W : World} {v : Value} {l : List Bool} {n : Nat} (h : Mk w v W l n) (o : Obj) : Mk w v (W.alloc o) l n :=
  have hz := h.sz
  ⟨h.row.later ((Below.refl _ _).alloc (Nat.le_refl _) _), h.below.alloc h.below.size _, (((Below.refl W.heap.size W).alloc (Nat.le_refl _) o).cell (p := ⟨w.heap.size, 0, none⟩) (by show w.heap.size < _; omega)).trans h.box, Nat.le_trans hz (by simp), h.len⟩
theorem Mk.set {w W : World} {v : Value} {l : List Bool} {n : Nat} (h : Mk w v W l n) (j : Nat) (hj : j < n) : Mk w v (W.setCell ⟨w.heap.size + 1, j, none⟩ (.bool true)) (Mc.setM l j) n :=
  ⟨h.row.setM j (by rw [h.len]; exact hj), h.below.setCell (p := ⟨w.heap.size + 1, j, none⟩) (by show w.heap.size ≤ w.heap.size + 1; omega) _, (World.cell?_setCell_other _ _ _ _ (by simp)).trans h.box, by have := h.sz; simpa using this, by rw [Mc.setM_len]; exact h.len⟩

set_option maxHeartbeats 3200000 in
theorem MarksOf_any (a : Option Addr) (cap : Nat) (code : List Mc.Ins) (d : Int) (w : World) (hT : ImgAt w a code) (h0 : 0 < code.length) (hl : code.length ≤ 2048) :
    Calls Try.prog 8 #[.agg #[.slice a code.length cap, .int .i64 d]] w fun e w' => ∃ g, e = .returned (.slice (some ⟨g, 0, none⟩) code.length code.length) ∧ w.heap.size ≤ g ∧ BRow w' g (Mc.marks code) ∧ Below w.heap.size w w' := by
  have hmk := fun W => make_fls code.length hl W
  obtain ⟨W0, hW0⟩ : ∃ W0 : World, W0 = (w.alloc (.cells #[.slice a code.length cap, .int .i64 d] 24)).alloc (.cells (fls code.length) 4) := ⟨_, rfl⟩
  have hB0 : Below w.heap.size w W0 := by rw [hW0]; exact ((Below.refl _ _).alloc (Nat.le_refl _) _).alloc (by simp) _
  have hR0 : BRow W0 (w.heap.size + 1) (List.replicate code.length false) := by
    rw [hW0]
    have := fls_row (w.alloc (.cells #[.slice a code.length cap, .int .i64 d] 24)) code.length
    simpa using this
  have x0 : W0.cell? ⟨w.heap.size, 0, none⟩ = some (.slice a code.length cap) := by rw [hW0]; simp
  have hz0 : W0.heap.size = w.heap.size + 2 := by rw [hW0]; simp
  have HR1 : Hid (BRow (W0.setCell ⟨w.heap.size + 1, 0, none⟩ (.bool true)) (w.heap.size + 1) (Mc.marksTo code 0)) := hR0.setM 0 (by simpa using h0)
  have HB1 : Hid (Below w.heap.size w (W0.setCell ⟨w.heap.size + 1, 0, none⟩ (.bool true))) := hB0.setCell (p := ⟨w.heap.size + 1, 0, none⟩) (by show w.heap.size ≤ w.heap.size + 1; omega) _
  have HX1 : Hid ((W0.setCell ⟨w.heap.size + 1, 0, none⟩ (.bool true)).cell? ⟨w.heap.size, 0, none⟩ = some (.slice a code.length cap)) := (World.cell?_setCell_other _ _ _ _ (by simp)).trans x0
  have HZ1 : Hid (w.heap.size + 2 ≤ (W0.setCell ⟨w.heap.size + 1, 0, none⟩ (.bool true)).heap.size) := by show _ ≤ _; simp; omega
  have HT := hid hT
  rw [hW0] at HR1 HB1 HX1 HZ1
  have hpos : (0 : Int) < (code.length : Int) := by omega
  have c0 := hR0.cell 0 (by simpa using h0)
  have f0 := hR0.fz 0 (by simpa using h0)
  rw [hW0] at c0 f0
  clear hT hB0 hR0 x0 hz0 hW0
  have hWe : ((w.alloc (.cells #[.slice a code.length cap, .int .i64 d] 24)).alloc (.cells (fls code.length) 4)).setCell ⟨w.heap.size + 1, 0, none⟩ (.bool true) = (w.alloc (.cells #[.slice a code.length cap, .int .i64 d] 24)).alloc (.cells ((fls code.length).setIfInBounds 0 (.bool true)) 4) := World.setCell_alloc_at _ _ _ _ _ (by simp)
  rw [hWe] at HR1 HB1 HX1 HZ1
  clear hWe
  go_enter Try.func8, Try.ntmps8
  go_wp2_with fail
  generalize (w.alloc (.cells #[.slice a code.length cap, .int .i64 d] 24)).alloc (.cells ((fls code.length).setIfInBounds 0 (.bool true)) 4) = W1 at *
  clear c0 f0 hmk
  go_loopw [4, 5, 6] (fun i _ _ wr => ∃ k : Nat, k ≤ code.length ∧ i = .int .i64 k ∧ BRow wr (w.heap.size + 1) (Mc.marksTo code k) ∧ Below w.heap.size w wr ∧ wr.cell? ⟨w.heap.size, 0, none⟩ = some (.slice a code.length cap) ∧ w.heap.size + 2 ≤ wr.heap.size) (fun i _ _ _ => code.length - (intOf i).toNat)
  case atStart => exact ⟨0, Nat.zero_le _, rfl, HR1.out, HB1.out, HX1.out, HZ1.out⟩
  case round =>
    obtain ⟨k, hk, rfl, hr, hb, hx, hz⟩ := hrel
    have HRk := hid hr
    have HBk := hid hb
    clear HR1 HB1 HX1 HZ1 hr hb
    by_cases hlt : k < code.length
    · obtain ⟨b, off, rfl, hbl, hc⟩ := (HT.out.later HBk.out).get h0
      obtain ⟨c0, c1, c2⟩ := hc k hlt
      have HS : Hid (Mc.marksTo code (k + 1) = Mc.mark1 (Mc.marksTo code k) (code.getD k Mc.dI) k) := rfl
      have HL := hid (Mc.marksTo_len code k)
      generalize code.getD k Mc.dI = it at *
      obtain ⟨op, ia, ib⟩ := it
      simp only at c0 c1 c2
      clear hc
      have hzk : w.heap.size + 1 < wr.heap.size := by omega
      have hzk0 : w.heap.size < wr.heap.size := by omega
      have hM : Mk w (.slice (some ⟨b, off, none⟩) code.length cap) wr (Mc.marksTo code k) code.length := ⟨HRk.out, HBk.out, hx, hz, HL.out⟩
      have HMk := hid hM
      clear hM
      by_cases hin : 0 ≤ ia ∧ ia < code.length
      · obtain ⟨hin0, hin1⟩ := hin
        obtain ⟨t, rfl⟩ := Int.eq_ofNat_of_zero_le hin0
        have htl : t < code.length := by omega
        have HW := hid (fun W => within_any true (t : Int) 0 ((code.length : Int) - 1) W (inB_true (by omega) (by omega)))
        have m0 := HRk.out.cell t (by rw [HL.out]; exact htl)
        have m1 := HRk.out.fz t (by rw [HL.out]; exact htl)
        by_cases h11 : op = 11
        · subst h11
          have HE : Hid (∀ o, Mk w (.slice (some ⟨b, off, none⟩) code.length cap) ((wr.setCell ⟨w.heap.size + 1, t, none⟩ (.bool true)).alloc o) (Mc.marksTo code (k + 1)) code.length) := fun o => by rw [HS.out]; exact (HMk.out.set t htl).alloc o
          go_wp2_with (go_at_call 18; refine (HW.out _).mono ?_; rintro e w2 ⟨rfl, rfl⟩)
          go_roundw
          case rel => exact ⟨k + 1, by omega, by go_num, (HE.out _).row, (HE.out _).below, (HE.out _).box, (HE.out _).sz⟩
          case measure => simp [intOf]; omega
        by_cases h12 : op = 12
        · subst h12
          have HE : Hid (∀ o, Mk w (.slice (some ⟨b, off, none⟩) code.length cap) ((wr.setCell ⟨w.heap.size + 1, t, none⟩ (.bool true)).alloc o) (Mc.marksTo code (k + 1)) code.length) := fun o => by rw [HS.out]; exact (HMk.out.set t htl).alloc o
          go_wp2_with (go_at_call 18; refine (HW.out _).mono ?_; rintro e w2 ⟨rfl, rfl⟩)
          go_roundw
          case rel => exact ⟨k + 1, by omega, by go_num, (HE.out _).row, (HE.out _).below, (HE.out _).box, (HE.out _).sz⟩
          case measure => simp [intOf]; omega
        by_cases h13 : op = 13
        · subst h13
          by_cases hnx : k + 1 < code.length
          · have n0 := HRk.out.cell (k + 1) (by rw [HL.out]; exact hnx)
            have n1 := HRk.out.fz (k + 1) (by rw [HL.out]; exact hnx)
            have hnx' : (k : Int) + 1 < (code.length : Int) := by omega
            have HE : Hid (∀ o, Mk w (.slice (some ⟨b, off, none⟩) code.length cap) (((wr.setCell ⟨w.heap.size + 1, t, none⟩ (.bool true)).setCell ⟨w.heap.size + 1, k + 1, none⟩ (.bool true)).alloc o) (Mc.marksTo code (k + 1)) code.length) := fun o => by rw [HS.out]; exact ((HMk.out.set t htl).set (k + 1) hnx).alloc o
            by_cases htk : t = k + 1
            · subst htk
              go_wp2_with (go_at_call 18; refine (HW.out _).mono ?_; rintro e w2 ⟨rfl, rfl⟩)
              go_roundw
              case rel => exact ⟨k + 1, by omega, by go_num, (HE.out _).row, (HE.out _).below, (HE.out _).box, (HE.out _).sz⟩
              case measure => simp [intOf]; omega
            · have htk' : ¬ k + 1 = t := fun e => htk e.symm
              go_wp2_with (go_at_call 18; refine (HW.out _).mono ?_; rintro e w2 ⟨rfl, rfl⟩)
              go_roundw
              case rel => exact ⟨k + 1, by omega, by go_num, (HE.out _).row, (HE.out _).below, (HE.out _).box, (HE.out _).sz⟩
              case measure => simp [intOf]; omega
          · have HE : Hid (∀ o, Mk w (.slice (some ⟨b, off, none⟩) code.length cap) ((wr.setCell ⟨w.heap.size + 1, t, none⟩ (.bool true)).alloc o) (Mc.marksTo code (k + 1)) code.length) := fun o => by
              rw [HS.out]
              have e : Mc.setM (Mc.setM (Mc.marksTo code k) t) ((k : Int) + 1) = Mc.setM (Mc.marksTo code k) t := if_neg (by rw [Mc.setM_len, HL.out]; omega)
              have := (HMk.out.set t htl).alloc o
              rw [← e] at this
              exact this
            go_wp2_with (go_at_call 18; refine (HW.out _).mono ?_; rintro e w2 ⟨rfl, rfl⟩)
            go_roundw
            case rel => exact ⟨k + 1, by omega, by go_num, (HE.out _).row, (HE.out _).below, (HE.out _).box, (HE.out _).sz⟩
            case measure => simp [intOf]; omega
        · have HE : Hid (∀ o, Mk w (.slice (some ⟨b, off, none⟩) code.length cap) (wr.alloc o) (Mc.marksTo code (k + 1)) code.length) := fun o => by
            rw [HS.out]
            unfold Mc.mark1
            rw [if_neg (fun h => h.elim h11 h12), if_neg h13]
            exact HMk.out.alloc o
          have b11 : (op == 11) = false := beq_eq_false_iff_ne.2 h11
          have b12 : (op == 12) = false := beq_eq_false_iff_ne.2 h12
          have b13 : (op == 13) = false := beq_eq_false_iff_ne.2 h13
          clear h11 h12 h13
          go_wp2_with fail
          go_roundw
          case rel => exact ⟨k + 1, by omega, by go_num, (HE.out _).row, (HE.out _).below, (HE.out _).box, (HE.out _).sz⟩
          case measure => simp [intOf]; omega
      · have HW := hid (fun W => within_any false ia 0 ((code.length : Int) - 1) W (inB_false (by omega)))
        have HN : Hid (Mc.setM (Mc.marksTo code k) ia = Mc.marksTo code k) := if_neg (by rw [HL.out]; exact hin)
        clear hin
        by_cases h11 : op = 11
        · subst h11
          have HE : Hid (∀ o, Mk w (.slice (some ⟨b, off, none⟩) code.length cap) (wr.alloc o) (Mc.marksTo code (k + 1)) code.length) := fun o => by rw [HS.out]; show Mk w _ _ (Mc.setM (Mc.marksTo code k) ia) _; rw [HN.out]; exact HMk.out.alloc o
          go_wp2_with (go_at_call 18; refine (HW.out _).mono ?_; rintro e w2 ⟨rfl, rfl⟩)
          go_roundw
          case rel => exact ⟨k + 1, by omega, by go_num, (HE.out _).row, (HE.out _).below, (HE.out _).box, (HE.out _).sz⟩
          case measure => simp [intOf]; omega
        by_cases h12 : op = 12
        · subst h12
          have HE : Hid (∀ o, Mk w (.slice (some ⟨b, off, none⟩) code.length cap) (wr.alloc o) (Mc.marksTo code (k + 1)) code.length) := fun o => by rw [HS.out]; show Mk w _ _ (Mc.setM (Mc.marksTo code k) ia) _; rw [HN.out]; exact HMk.out.alloc o
          go_wp2_with (go_at_call 18; refine (HW.out _).mono ?_; rintro e w2 ⟨rfl, rfl⟩)
          go_roundw
          case rel => exact ⟨k + 1, by omega, by go_num, (HE.out _).row, (HE.out _).below, (HE.out _).box, (HE.out _).sz⟩
          case measure => simp [intOf]; omega
        by_cases h13 : op = 13
        · subst h13
          by_cases hnx : k + 1 < code.length
          · have n0 := HRk.out.cell (k + 1) (by rw [HL.out]; exact hnx)
            have n1 := HRk.out.fz (k + 1) (by rw [HL.out]; exact hnx)
            have hnx' : (k : Int) + 1 < (code.length : Int) := by omega
            have HE : Hid (∀ o, Mk w (.slice (some ⟨b, off, none⟩) code.length cap) ((wr.setCell ⟨w.heap.size + 1, k + 1, none⟩ (.bool true)).alloc o) (Mc.marksTo code (k + 1)) code.length) := fun o => by
              rw [HS.out]
              show Mk w _ _ (Mc.setM (Mc.setM (Mc.marksTo code k) ia) ((k : Int) + 1)) _
              rw [HN.out]
              exact (HMk.out.set (k + 1) hnx).alloc o
            go_wp2_with (go_at_call 18; refine (HW.out _).mono ?_; rintro e w2 ⟨rfl, rfl⟩)
            go_roundw
            case rel => exact ⟨k + 1, by omega, by go_num, (HE.out _).row, (HE.out _).below, (HE.out _).box, (HE.out _).sz⟩
            case measure => simp [intOf]; omega
          · have HE : Hid (∀ o, Mk w (.slice (some ⟨b, off, none⟩) code.length cap) (wr.alloc o) (Mc.marksTo code (k + 1)) code.length) := fun o => by
              rw [HS.out]
              show Mk w _ _ (Mc.setM (Mc.setM (Mc.marksTo code k) ia) ((k : Int) + 1)) _
              rw [HN.out, show Mc.setM (Mc.marksTo code k) ((k : Int) + 1) = Mc.marksTo code k from if_neg (by rw [HL.out]; omega)]
              exact HMk.out.alloc o
            go_wp2_with (go_at_call 18; refine (HW.out _).mono ?_; rintro e w2 ⟨rfl, rfl⟩)
            go_roundw
            case rel => exact ⟨k + 1, by omega, by go_num, (HE.out _).row, (HE.out _).below, (HE.out _).box, (HE.out _).sz⟩
            case measure => simp [intOf]; omega
        · have HE : Hid (∀ o, Mk w (.slice (some ⟨b, off, none⟩) code.length cap) (wr.alloc o) (Mc.marksTo code (k + 1)) code.length) := fun o => by
            rw [HS.out]
            unfold Mc.mark1
            rw [if_neg (fun h => h.elim h11 h12), if_neg h13]
            exact HMk.out.alloc o
          have b11 : (op == 11) = false := beq_eq_false_iff_ne.2 h11
          have b12 : (op == 12) = false := beq_eq_false_iff_ne.2 h12
          have b13 : (op == 13) = false := beq_eq_false_iff_ne.2 h13
          clear h11 h12 h13
          go_wp2_with fail
          go_roundw
          case rel => exact ⟨k + 1, by omega, by go_num, (HE.out _).row, (HE.out _).below, (HE.out _).box, (HE.out _).sz⟩
          case measure => simp [intOf]; omega
    · obtain rfl : k = code.length := by omega
      clear hlt
      obtain ⟨HRf⟩ : Nonempty (Hid (BRow wr (w.heap.size + 1) (Mc.marks code))) := ⟨HRk.out⟩
      go_wp2_with fail
      go_ret
      exact ⟨w.heap.size + 1, rfl, by omega, HRf.out, HBk.out⟩

end Go.Proofs.Ytpahhhhfhnpmjaa
