/-
  The program's marks.
-/
import Derived.Test.YtpahhhhfhnpmjaaQb
import Derived.Laws.MakeOwn
import Derived.OwnWalk
namespace Go.Proofs.Ytpahhhhfhnpmjaa
open Go.RowKit Go.Shelf
set_option maxRecDepth 100000

def fls (d : Nat) : Array Value := madeCells #[.bool false] d
theorem fls_get (d i : Nat) (h : i < d) : (fls d)[i]? = some (.bool false) := by
  simp [fls, madeCells, h, Nat.mod_one]
theorem fls_size (d : Nat) : (fls d).size = d := size_madeCells _ _
theorem newInfo4 : (Try.prog.info? 4).map (fun i => (i.zero, i.size, i.bytes)) = some (some (.bool false), 1, 1) := by kernel_rfl
theorem make_fls (d : Nat) (hd : d ≤ 2048) (w : World) : (Instr.makeSlice 25 (.int .i64 (d : Int)) (.int .i64 (d : Int))).run Try.prog w = .ok (.slice (some ⟨w.heap.size, 0, none⟩) d d) (w.alloc (.cells (fls d) 4)) := by
  obtain ⟨i0, hi, hz0, hz1, hz2⟩ := info_parts newInfo4
  have := run_make (P := Try.prog) w 25 4 i0 _ Try.underlying25 hi hz0 .i64 .i64 (d : Int) (d : Int) (by omega) (by omega) (by rw [hz2]; omega) (by omega)
  rw [this, hz1, Nat.mul_one, Int.toNat_natCast]
  rfl
theorem fls_row (w : World) (d : Nat) : BRow (w.alloc (.cells (fls d) 4)) w.heap.size (List.replicate d false) := by
  have hn := _root_.Go.heap_alloc_new w (.cells (fls d) 4)
  refine ⟨by simp, fun i hi => ?_, fun i hi => ?_⟩
  · rw [List.length_replicate] at hi
    rw [Lib.cell_of_heap hn, fls_get d i hi, List.getD_eq_getElem?_getD, List.getElem?_replicate, if_pos hi]
    rfl
  · unfold World.frozen?
    simp only
    rw [hn]
    simp

set_option maxHeartbeats 1600000 in
theorem marksOf_any (a : Option Addr) (cap : Nat) (code : List Mc.Ins) (w : World) (hT : ImgAt w a code) (h0 : 0 < code.length) (hl : code.length ≤ 2048) :
    Calls Try.prog 16 #[.slice a code.length cap] w fun e w' => ∃ g, e = .returned (.slice (some ⟨g, 0, none⟩) code.length code.length) ∧ w.heap.size ≤ g ∧ BRow w' g (Mc.marks code) ∧ Below w.heap.size w w' := by
  have hmf : ∀ (fn : Fn) (first cap : Array Value) (w : World), (Instr.makeFunc fn first cap).run Try.prog w = .ok (.func fn first cap) w := fun _ _ _ _ => rfl
  have hmk := make_fls code.length hl w
  obtain ⟨W0, hW0⟩ : ∃ W0 : World, W0 = (w.alloc (.cells (fls code.length) 4)).alloc (.cells #[.slice (some ⟨w.heap.size, 0, none⟩) code.length code.length] 25) := ⟨_, rfl⟩
  have HR0 : Hid (BRow W0 w.heap.size (List.replicate code.length false)) := by rw [hW0]; exact (fls_row w _).kept (grown_alloc (grown_refl _ none) _) (by simp)
  have HB0 : Hid (Below w.heap.size w W0) := by rw [hW0]; exact ((Below.refl _ _).alloc (Nat.le_refl _) _).alloc (by simp) _
  have x0 : W0.cell? ⟨w.heap.size + 1, 0, none⟩ = some (.slice (some ⟨w.heap.size, 0, none⟩) code.length code.length) := by rw [hW0]; simp
  have HZ0 : Hid (W0.heap.size = w.heap.size + 2) := by show _ = _; rw [hW0]; simp
  have HW0 := hid hW0
  have HT := hid hT
  have HMk : Hid (∀ (k : Int) (l : List Bool) (W : World), l.length = code.length → W.cell? ⟨w.heap.size + 1, 0, none⟩ = some (.slice (some ⟨w.heap.size, 0, none⟩) code.length code.length) → BRow W w.heap.size l → Calls Try.prog 30 #[.int .i64 k, .pointer (some ⟨w.heap.size + 1, 0, none⟩)] W fun e w' => e = .returned (.tuple #[]) ∧ BRow w' w.heap.size (Mc.setM l k) ∧ W.grownBy w' (some w.heap.size)) := fun k l W h1 h2 h3 => mark_any k _ _ l W (by rw [h1]; exact h2) h3
  clear hW0 hT
  go_enter Try.func16, Try.ntmps16
  go_wp2_with fail
  rw [← HW0.out]
  refine (HMk.out 0 _ _ (by simp) x0 HR0.out).mono ?_
  rintro e w1 ⟨rfl, hr1, hg1⟩
  have HR1 : Hid (BRow w1 w.heap.size (Mc.marksTo code 0)) := hr1
  have HB1 : Hid (Below w.heap.size w w1) := below_grew HB0.out hg1 HB0.out.size (fun k e => by have := Option.some.inj e; omega)
  have HX1 : Hid (w1.cell? ⟨w.heap.size + 1, 0, none⟩ = some (.slice (some ⟨w.heap.size, 0, none⟩) code.length code.length) ∧ w.heap.size + 2 ≤ w1.heap.size) :=
    ⟨(World.cell?_of_block (a := ⟨w.heap.size + 1, 0, none⟩) (hg1.block (w.heap.size + 1) (by rw [HZ0.out]; omega) (fun e => by have := Option.some.inj e; omega))).trans x0, by have := hg1.size; rw [HZ0.out] at this; exact this⟩
  clear hr1 hg1 HR0 HB0 x0 HW0 HZ0 hmk
  go_wp2_with fail
  go_loopw [15, 5, 6] (fun i _ _ wr => ∃ k : Nat, k ≤ code.length ∧ i = .int .i64 k ∧ BRow wr w.heap.size (Mc.marksTo code k) ∧ Below w.heap.size w wr ∧ wr.cell? ⟨w.heap.size + 1, 0, none⟩ = some (.slice (some ⟨w.heap.size, 0, none⟩) code.length code.length) ∧ w.heap.size + 2 ≤ wr.heap.size) (fun i _ _ _ => code.length - (intOf i).toNat)
  case atStart => exact ⟨0, Nat.zero_le _, rfl, HR1.out, HB1.out, HX1.out.1, HX1.out.2⟩
  case round =>
    obtain ⟨k, hk, rfl, hr, hb, hx, hz⟩ := hrel
    have HRk := hid hr
    have HBk := hid hb
    clear HR1 HB1 HX1 hr hb
    by_cases hlt : k < code.length
    · obtain ⟨b, off, rfl, hbl, hc⟩ := (HT.out.later HBk.out).get h0
      obtain ⟨c0, c1, c2⟩ := hc k hlt
      have HS : Hid (Mc.marksTo code (k + 1) = Mc.mark1 (Mc.marksTo code k) (code.getD k Mc.dI) k) := rfl
      have HL := hid (Mc.marksTo_len code k)
      generalize code.getD k Mc.dI = it at *
      obtain ⟨op, ia, ib⟩ := it
      simp only at c0 c1 c2
      clear hc
      have HG : Hid (∀ o, wr.grownBy (wr.alloc o) (some w.heap.size)) := fun o => grown_alloc (grown_refl _ _) o
      have HRa : Hid (∀ o, BRow (wr.alloc o) w.heap.size (Mc.marksTo code k)) := fun o => HRk.out.kept (grown_alloc (grown_refl _ none) o) (by simp)
      have HXa : Hid (∀ o, (wr.alloc o).cell? ⟨w.heap.size + 1, 0, none⟩ = some (.slice (some ⟨w.heap.size, 0, none⟩) code.length code.length)) := fun o => (((Below.refl wr.heap.size wr).alloc (Nat.le_refl _) o).cell (p := ⟨w.heap.size + 1, 0, none⟩) (by show w.heap.size + 1 < _; omega)).trans hx
      by_cases h11 : op = 11
      · subst h11
        go_wp2_with (go_at_call 30; refine (HMk.out _ _ _ HL.out (HXa.out _) (HRa.out _)).mono ?_; rintro e w2 ⟨rfl, hr2, hg2⟩; have HR2 := hid hr2; have HG2 := hid (grown_trans (HG.out _) hg2); clear hr2 hg2)
        go_roundw
        case rel => exact ⟨k + 1, by omega, by go_num, by rw [HS.out]; exact HR2.out, below_grew HBk.out HG2.out HBk.out.size (fun k e => by have := Option.some.inj e; omega), (World.cell?_of_block (a := ⟨w.heap.size + 1, 0, none⟩) (HG2.out.block (w.heap.size + 1) (by omega) (fun e => by have := Option.some.inj e; omega))).trans hx, Nat.le_trans hz HG2.out.size⟩
        case measure => simp [intOf]; omega
      by_cases h12 : op = 12
      · subst h12
        go_wp2_with (go_at_call 30; refine (HMk.out _ _ _ HL.out (HXa.out _) (HRa.out _)).mono ?_; rintro e w2 ⟨rfl, hr2, hg2⟩; have HR2 := hid hr2; have HG2 := hid (grown_trans (HG.out _) hg2); clear hr2 hg2)
        go_roundw
        case rel => exact ⟨k + 1, by omega, by go_num, by rw [HS.out]; exact HR2.out, below_grew HBk.out HG2.out HBk.out.size (fun k e => by have := Option.some.inj e; omega), (World.cell?_of_block (a := ⟨w.heap.size + 1, 0, none⟩) (HG2.out.block (w.heap.size + 1) (by omega) (fun e => by have := Option.some.inj e; omega))).trans hx, Nat.le_trans hz HG2.out.size⟩
        case measure => simp [intOf]; omega
      by_cases h13 : op = 13
      · subst h13
        go_wp2_with fail
        refine (HMk.out _ _ _ HL.out (HXa.out _) (HRa.out _)).mono ?_
        rintro e w2 ⟨rfl, hr2, hg2⟩
        have HR2 := hid hr2
        have HG2 := hid (grown_trans (HG.out _) hg2)
        have hx2 := (World.cell?_of_block (a := ⟨w.heap.size + 1, 0, none⟩) (HG2.out.block (w.heap.size + 1) (by omega) (fun e => by have := Option.some.inj e; omega))).trans hx
        have HL2 : Hid ((Mc.setM (Mc.marksTo code k) ia).length = code.length) := (Mc.setM_len _ _).trans HL.out
        clear hr2 hg2
        go_wp2_with (go_at_call 30; refine (HMk.out _ _ _ HL2.out hx2 HR2.out).mono ?_; rintro e w3 ⟨rfl, hr3, hg3⟩; have HR3 := hid hr3; have HG3 := hid (grown_trans HG2.out hg3); clear hr3 hg3)
        go_roundw
        case rel => exact ⟨k + 1, by omega, by go_num, by rw [HS.out]; exact HR3.out, below_grew HBk.out HG3.out HBk.out.size (fun k e => by have := Option.some.inj e; omega), (World.cell?_of_block (a := ⟨w.heap.size + 1, 0, none⟩) (HG3.out.block (w.heap.size + 1) (by omega) (fun e => by have := Option.some.inj e; omega))).trans hx, Nat.le_trans hz HG3.out.size⟩
        case measure => simp [intOf]; omega
      · have b11 : (op == 11) = false := beq_eq_false_iff_ne.2 h11
        have b12 : (op == 12) = false := beq_eq_false_iff_ne.2 h12
        have b13 : (op == 13) = false := beq_eq_false_iff_ne.2 h13
        have HSa : Hid (Mc.marksTo code (k + 1) = Mc.marksTo code k) := by
          show _ = _
          rw [HS.out]
          unfold Mc.mark1
          rw [if_neg (fun h => h.elim h11 h12), if_neg h13]
        clear h11 h12 h13
        go_wp2_with fail
        go_roundw
        case rel => exact ⟨k + 1, by omega, by go_num, by rw [HSa.out]; exact HRa.out _, HBk.out.alloc HBk.out.size _, HXa.out _, by simp; omega⟩
        case measure => simp [intOf]; omega
    · obtain rfl : k = code.length := by omega
      clear hlt
      obtain ⟨HRf⟩ : Nonempty (Hid (BRow wr w.heap.size (Mc.marks code))) := ⟨HRk.out⟩
      go_wp2_with fail
      go_ret
      exact ⟨w.heap.size, rfl, Nat.le_refl _, HRf.out, HBk.out⟩

end Go.Proofs.Ytpahhhhfhnpmjaa
