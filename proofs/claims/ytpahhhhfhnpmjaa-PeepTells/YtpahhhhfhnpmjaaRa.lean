/-
  The reference's SameCode at two copies of one code; the law's foldable code.
-/
import Derived.Test.YtpahhhhfhnpmjaaQo
namespace Go.Proofs.Ytpahhhhfhnpmjaa
open Go.RowKit Go.Shelf
set_option maxRecDepth 100000

set_option maxHeartbeats 1600000 in
theorem SameCode_same (c : List Mc.Ins) (a a' : Option Addr) (c1 c2 : Nat) (w : World) (hA : ImgAt w a c) (hA' : ImgAt w a' c) (hl : c.length ≤ 1000000000000000) :
    Calls Try.prog 25 #[.slice a c.length c1, .slice a' c.length c2] w fun e w' => e = .returned (.bool true) ∧ ∃ m, w' = w.drewN m := by
  have HA := hid hA
  have HA' := hid hA'
  clear hA hA'
  go_enter Try.func25, Try.ntmps25
  go_wp2_with fail
  go_loopw [5] (fun i wr => ∃ k : Nat, k ≤ c.length ∧ i = .int .i64 k ∧ ∃ m, wr = w.drewN m) (fun i _ => c.length - (intOf i).toNat)
  case atStart => exact ⟨0, Nat.zero_le _, rfl, 0, rfl⟩
  case round =>
    obtain ⟨k, hk, rfl, m, rfl⟩ := hrel
    by_cases hlt : k < c.length
    · obtain ⟨b, off, rfl, hbl, x0, x1, x2⟩ := HA.out.place hlt
      obtain ⟨b', off', rfl, hbl', y0, y1, y2⟩ := HA'.out.place hlt
      generalize c[k] = it at *
      obtain ⟨op, ia, ib⟩ := it
      simp only at x0 x1 x2 y0 y1 y2
      go_wp2_with (go_quiet (fail))
      go_roundw
      case rel => exact ⟨k + 1, by omega, by go_num, _, rfl⟩
      case measure => simp [intOf]; omega
    · obtain rfl : k = c.length := by omega
      go_wp2_with fail
      go_ret
      exact ⟨rfl, m, rfl⟩

def foldC : List Mc.Ins := [⟨1, 2, 0⟩, ⟨1, 3, 0⟩, ⟨10, 11, 0⟩, ⟨1, 4, 0⟩, ⟨10, 9, 0⟩, ⟨19, 0, 0⟩, ⟨1, 0, 0⟩, ⟨12, 9, 0⟩, ⟨20, 0, 0⟩, ⟨11, 8, 0⟩]
def foldP : List Mc.Ins := [⟨21, 0, 0⟩, ⟨21, 0, 0⟩, ⟨21, 0, 0⟩, ⟨21, 0, 0⟩, ⟨1, 10, 0⟩, ⟨19, 0, 0⟩, ⟨21, 0, 0⟩, ⟨11, 8, 0⟩, ⟨20, 0, 0⟩, ⟨11, 8, 0⟩]
theorem foldP_is : Mc.peep foldC = foldP := by kernel_rfl
def foldM : List Bool := [true, false, false, false, false, false, false, false, true, true]
theorem foldM_is : Mc.marks foldC = foldM := by kernel_rfl
theorem foldC_ok : checkI foldC 0 = 0 := by decide
theorem new_img (W : World) (c : List Mc.Ins) (t : TypeId) (n : Nat) (hn : n = W.heap.size) : ImgAt (W.alloc (.cells (cellsC c).toArray t)) (some ⟨n, 0, none⟩) c := by
  subst hn
  have hh := _root_.Go.heap_alloc_new W (.cells (cellsC c).toArray t)
  refine Or.inr ⟨_, 0, rfl, by simp, fun i hi => ?_⟩
  have e : c.getD i Mc.dI = c[i] := by rw [List.getD_eq_getElem?_getD, List.getElem?_eq_getElem hi]; rfl
  obtain ⟨g0, g1, g2⟩ := cellsC_get c i hi
  rw [e] at g0 g1 g2
  rw [Nat.zero_add, Lib.cell_of_heap hh, Lib.cell_of_heap hh, Lib.cell_of_heap hh]
  simp only [List.getElem?_toArray]
  exact ⟨g0, g1, g2⟩

set_option maxHeartbeats 1600000 in
theorem foldable_any (w : World) : Calls Try.prog 24 #[] w fun e w' => ∃ ad cap, e = .returned (.agg #[.slice ad foldC.length cap, .int .i64 0]) ∧ ImgAt w' ad foldC ∧ Below w.heap.size w w' := by
  go_enter Try.func24, Try.ntmps24
  go_wp2_with fail
  obtain ⟨W, hW⟩ : ∃ W, W = (w.alloc (.cells #[.slice (some ⟨w.heap.size + 1, 0, none⟩) 10 10, .int .i64 0] 24)).alloc (.cells (cellsC foldC).toArray 51) := ⟨_, rfl⟩
  have hB : Below w.heap.size w W := by rw [hW]; exact ((Below.refl _ _).alloc (Nat.le_refl _) _).alloc (by simp) _
  have hI : ImgAt W (some ⟨w.heap.size + 1, 0, none⟩) foldC := by rw [hW]; exact new_img _ _ _ _ (by simp)
  refine bodyPost_ret (v := .agg #[.slice (some ⟨w.heap.size + 1, 0, none⟩) 10 10, .int .i64 0]) ?_ rfl ⟨some ⟨w.heap.size + 1, 0, none⟩, 10, rfl, ?_, ?_⟩
  · simp [results, Try.results24, go_sem]
  · rw [hW] at hI; exact hI
  · rw [hW] at hB; exact hB

set_option maxHeartbeats 3200000 in
theorem peepBegun_any (w : World) : Calls Try.prog 10 #[] w fun e w' => e = .returned (.bool true) ∧ Below w.heap.size w w' := by
  have HF : Hid (∀ W, Calls Try.prog 24 #[] W fun e w' => ∃ ad cap, e = .returned (.agg #[.slice ad 10 cap, .int .i64 0]) ∧ ImgAt w' ad foldC ∧ Below W.heap.size W w') := foldable_any
  have HM : Hid (∀ W a cap, ImgAt W a foldC → Calls Try.prog 5 #[.agg #[.slice a 10 cap, .int .i64 0]] W fun e w' => ∃ g, e = .returned (.tuple #[.slice (some ⟨g, 0, none⟩) 10 10, .int .i64 0]) ∧ W.heap.size ≤ g ∧ BRow w' g foldM ∧ Below W.heap.size W w') := fun W a cap h => by
    have := Marks_ok a cap foldC 0 W h foldC_ok
    rw [foldM_is] at this
    exact this
  have HP : Hid (∀ W a cap, ImgAt W a foldC → Calls Try.prog 6 #[.agg #[.slice a 10 cap, .int .i64 0]] W fun e w' => ∃ g gc, e = .returned (.tuple #[.agg #[.slice (some ⟨g, 0, none⟩) 10 gc, .int .i64 0], .int .i64 0]) ∧ W.heap.size ≤ g ∧ CRow w' g foldP ∧ Below W.heap.size W w') := fun W a cap h => by
    have := Peep_ok a cap foldC 0 W h foldC_ok
    rw [foldP_is] at this
    exact this
  have HS : Hid (∀ W a a' c1 c2, ImgAt W a foldP → ImgAt W a' foldP → Calls Try.prog 25 #[.slice a 10 c1, .slice a' 10 c2] W fun e w' => e = .returned (.bool true) ∧ ∃ m, w' = W.drewN m) := fun W a a' c1 c2 h h' => SameCode_same foldP a a' c1 c2 W h h' (by decide)
  go_enter Try.func10, Try.ntmps10
  go_wp2_with fail
  refine (HF.out _).mono ?_
  rintro e w1 ⟨ad, cap, rfl, hi1, hb1⟩
  have HB1 := hid hb1
  have HI1 := hid hi1
  clear hi1 hb1
  go_wp2_with fail
  refine (HM.out _ _ _ HI1.out).mono ?_
  rintro e w2 ⟨g2, rfl, hg2, hr2, hb2⟩
  have HB2 := hid (HB1.out.trans (hb2.mono HB1.out.size))
  have HR2 := hid hr2
  clear hg2 hr2 hb2 HB1 HI1
  go_wp2_with fail
  refine (HF.out _).mono ?_
  rintro e w3 ⟨ad3, cap3, rfl, hi3, hb3⟩
  have HB3 := hid (HB2.out.trans (hb3.mono HB2.out.size))
  have HR3 := hid (HR2.out.later hb3)
  have HI3 := hid hi3
  clear hi3 hb3 HB2 HR2
  go_wp2_with fail
  refine (HP.out _ _ _ HI3.out).mono ?_
  rintro e w4 ⟨g4, gc4, rfl, hg4, hc4, hb4⟩
  have HB4 := hid (HB3.out.trans (hb4.mono HB3.out.size))
  have HR4 := hid (HR3.out.later hb4)
  have HC4 := hid hc4
  clear hg4 hc4 hb4 HB3 HR3 HI3
  have m0 : w4.cell? ⟨g2, 0, none⟩ = some (.bool true) := HR4.out.cell 0 (by decide)
  have m7 : w4.cell? ⟨g2, 7, none⟩ = some (.bool false) := HR4.out.cell 7 (by decide)
  have m8 : w4.cell? ⟨g2, 8, none⟩ = some (.bool true) := HR4.out.cell 8 (by decide)
  have m9 : w4.cell? ⟨g2, 9, none⟩ = some (.bool true) := HR4.out.cell 9 (by decide)
  have ml := HR4.out.lt
  have ml1 : g2 < w4.heap.size + 1 := by omega
  have ml2 : g2 < w4.heap.size + 1 + 1 := by omega
  have HI4 := hid HC4.out.img
  have HNw := hid (fun (W : World) (n : Nat) (hn : n = W.heap.size) => new_img W foldP 51 n hn)
  go_wp2_with fail
  have HN3 : Hid (∀ o1 o2 o3, Below w4.heap.size w4 (((w4.alloc o1).alloc o2).alloc o3)) := fun o1 o2 o3 => (((Below.refl _ _).alloc (Nat.le_refl _) _).alloc (by simp) _).alloc (by simp; omega) _
  refine (HS.out _ _ _ _ _ (HI4.out.later (HN3.out _ _ _)) (HNw.out _ _ (by simp))).mono ?_
  rintro e w5 ⟨rfl, m5, rfl⟩
  go_wp2_with fail
  go_ret
  exact ⟨rfl, below_drewN (HB4.out.trans ((HN3.out _ _ _).mono HB4.out.size)) _⟩

end Go.Proofs.Ytpahhhhfhnpmjaa
