/-
  The program's Write: errors first, else a face's bytes.
-/
import Derived.Test.YtidhbgidkgopfaaFh
namespace Go.Proofs.Ytidhbgidkgopfaa
open Go.RowKit Go.Shelf
set_option maxRecDepth 100000

theorem nameOk_size {s : ByteArray} (h : nameOk s = true) : s.size ≤ 8 := by
  rcases Nat.lt_or_ge 8 s.size with h1 | h1
  · rw [show nameOk s = false from Lx.nameB_long s h1] at h; cases h
  · exact h1
theorem chk_zero {f : Fc} (h : chkF f = 0) : f.items.length ≤ 16 ∧ nameOk f.name = true ∧ dupB (namesOf f.items) = false ∧ f.items.all itemOk = true := by
  unfold chkF at h
  split at h
  · cases h
  · split at h
    · rename_i h1 h2
      simp only [Bool.and_eq_true, Bool.not_eq_true'] at h2
      exact ⟨by omega, h2.1.1, h2.1.2, h2.2⟩
    · cases h
theorem item_name {i : It} (h : itemOk i = true) : i.name.size ≤ 8 := by
  unfold itemOk at h
  simp only [Bool.and_eq_true] at h
  exact nameOk_size h.1
theorem textB_len (s : ByteArray) : (textB s).length = s.size + 1 := by simp [textB]
theorem numB_len (n : Int) : (numB n).length = 8 := rfl
theorem itemB_len (i : It) : (itemB i).length = i.name.size + 18 := by
  simp only [itemB, List.length_cons, List.length_append, textB_len, numB_len]
def headB (f : Fc) : List UInt8 := textB f.name ++ [byteOf f.items.length]
def soFar (f : Fc) (k : Nat) : List UInt8 := headB f ++ (f.items.take k).flatMap itemB
theorem soFar_zero (f : Fc) : soFar f 0 = headB f := by simp [soFar]
theorem soFar_all (f : Fc) : soFar f f.items.length = faceB f := by simp [soFar, headB, faceB]
theorem soFar_succ (f : Fc) (k : Nat) (h : k < f.items.length) : soFar f (k + 1) = soFar f k ++ itemB f.items[k] := by
  unfold soFar
  rw [take_succ f.items k h, List.flatMap_append]
  simp
theorem flat_len : ∀ (l : List It), l.all itemOk = true → (l.flatMap itemB).length ≤ l.length * 26
  | [], _ => by simp
  | i :: l, h => by
    simp only [List.all_cons, Bool.and_eq_true] at h
    have h1 := flat_len l h.2
    have h2 := item_name h.1
    simp only [List.flatMap_cons, List.length_append, itemB_len, List.length_cons]
    omega
theorem soFar_len {f : Fc} (h : chkF f = 0) (k : Nat) : (soFar f k).length ≤ 426 := by
  obtain ⟨h1, h2, _, h4⟩ := chk_zero h
  have h5 := nameOk_size h2
  have h6 := flat_len (f.items.take k) (by
    rw [List.all_eq_true] at h4 ⊢
    exact fun x hx => h4 x (List.mem_of_mem_take hx))
  have h7 : (f.items.take k).length ≤ f.items.length := List.length_take_le' ..
  unfold soFar headB
  simp only [List.length_append, textB_len, List.length_cons, List.length_nil]
  omega
theorem row_conv {B : Nat} {w : World} {u : Value} {l : List UInt8} (h : Row B w u l) (hl : l ≠ []) : (convert 37 9 u).run Try.prog w = .ok (.string (strOf l)) w := by
  rcases h.2 with ⟨hv, h0⟩ | ⟨g, cap, cur, hv, hB, hg, _⟩
  · exact absurd (List.eq_nil_of_length_eq_zero h0) hl
  · rw [hv]
    refine conv_at w g cap l (fun j hj => ?_)
    have := h.cells (g := g) (by rw [hv]; rfl) j (byteV l[j]) (by simp [bytesV, hj])
    rw [show (⟨g, 0, none⟩ : Addr).add j = ⟨g, j, none⟩ from by unfold Addr.add; split <;> simp_all] at this
    exact this
theorem below_row {B : Nat} {W0 w w' : World} {v : Value} {l : List UInt8} (h : Below B W0 w) (hr : Row B w v l) (hg : w.grownBy w' v.ownBlock) (hB : B ≤ w.heap.size) : Below B W0 w' := h.grown hg hB (fun k e => (hr.lies k e).1)

set_option maxHeartbeats 6400000 in
theorem Write_any (f : Fc) (a : Option Addr) (cap : Nat) (w : World) (hT : ItemsAt w a f.items) (hl : f.items.length ≤ 1000000000000000) (hs : f.name.size ≤ maxLen) (hf : AllFit f.items) :
    Calls Try.prog 5 #[.agg #[.string f.name, .slice a f.items.length cap]] w fun e w' => e = .returned (.tuple #[.string (if chkF f = 0 then strOf (faceB f) else ⟨#[]⟩), .int .i64 (chkF f)]) ∧ Below w.heap.size w w' := by
  obtain ⟨i0, hi, hz0, hz1, hz2⟩ := info_parts info5
  obtain ⟨W0, hW0⟩ : ∃ W0 : World, W0 = w.alloc (.cells #[.string f.name, .slice a f.items.length cap] 24) := ⟨_, rfl⟩
  have hzW : W0.heap.size = w.heap.size + 1 := by rw [hW0]; simp
  have HB0 : Hid (Below w.heap.size w W0) := by rw [hW0]; exact (Below.refl _ _).alloc (Nat.le_refl _) _
  have HBox0 : Hid (W0.cell? ⟨w.heap.size, 0, none⟩ = some (.string f.name)) := by rw [hW0]; show World.cell? _ _ = _; simp
  have HBox : Hid (W0.cell? ⟨w.heap.size, 1, none⟩ = some (.slice a f.items.length cap)) := by rw [hW0]; show World.cell? _ _ = _; simp
  have HT := hid (hT.later HB0.out)
  have HC := hid (scopeCheck_any f a cap W0 (hT.later HB0.out) hl hs hf)
  have HW0 := hid hW0
  have HZW := hid hzW
  by_cases h0 : chkF f = 0
  · rw [if_pos h0]
    have HC0 := hid h0
    obtain ⟨c16, cn, -, cit⟩ := chk_zero h0
    have c8 := nameOk_size cn
    have HIt : Hid (∀ k (h : k < f.items.length), f.items[k].name.size ≤ 8) := fun k h => item_name (List.all_eq_true.1 cit _ (List.getElem_mem h))
    have HLen := hid (soFar_len h0)
    rw [h0] at HC ⊢
    have HB16 : Hid (byteV (byteOf f.items.length) = .int .u8 (f.items.length : Int)) := by
      show byteV (byteOf f.items.length) = _
      rw [byteV_of, Int.emod_eq_of_lt (by omega) (by omega)]
    have HAT := hid (fun (W : World) (hb : W0.heap.size ≤ W.heap.size) => AppendText_any W0.heap.size (.slice none 0 0) [] f.name W (Row.nil _ _) hb (by simp) (by omega))
    have HTl : Hid ((textB f.name).length ≤ 9) := by show (textB f.name).length ≤ 9; rw [textB_len]; omega
    clear hT hs hf h0 cn cit hW0 hzW
    rw [HW0.out] at HC
    go_enter Try.func5, Try.ntmps5
    go_wp2_with fail
    refine HC.out.mono ?_
    rintro e w1 ⟨rfl, hb⟩
    rw [← HW0.out] at hb
    have HB1 := hid hb
    have hz1' := hb.size
    have n0 : w1.cell? ⟨w.heap.size, 0, none⟩ = some (.string f.name) := (hb.cell (p := ⟨w.heap.size, 0, none⟩) (by show w.heap.size < W0.heap.size; rw [HZW.out]; omega)).trans HBox0.out
    clear hb
    go_wp2_with fail
    refine (HAT.out _ hz1').mono ?_
    rintro e w2 ⟨v2, rfl, hr2, hg2⟩
    rw [List.nil_append] at hr2
    have HR2 := hid hr2
    have hb2 := below_row HB1.out (Row.nil _ _) hg2 hz1'
    have HB2 := hid hb2
    have hz2' := hb2.size
    have n1 : w2.cell? ⟨w.heap.size, 1, none⟩ = some (.slice a f.items.length cap) := (hb2.cell (p := ⟨w.heap.size, 1, none⟩) (by show w.heap.size < W0.heap.size; rw [HZW.out]; omega)).trans HBox.out
    have hwz : w.heap.size < w2.heap.size := by have := HZW.out; omega
    have htl := HTl.out
    clear hr2 hg2 hb2 n0
    go_wp2_with (at_builtin; refine wpList_append_lies _ rfl _ _ _ rfl W0.heap.size 5 i0 _ 1 1 Try.underlying37 hi hz0 hz1 hz2 rfl (by omega) _ (textB f.name).length (bytesV (textB f.name)) rfl (HR2.out.later ((Below.refl _ _).alloc (Nat.le_refl _) _)) ⟨_, 0, none⟩ 1 1 [byteV (byteOf f.items.length)] rfl rfl (by rw [HB16.out]; exact cell_one_at (by first | rfl | simp)) (fun u hu => by rcases List.mem_singleton.1 hu with rfl; rfl) (by omega) (by unfold maxLen; omega) (by omega) (by first | omega | (simp; omega)) _ rfl ?_; intro q2 cap2 w3 hown1 hg hat hlt2; obtain ⟨k1, k2, k3⟩ := step_byte (c := byteOf f.items.length) hown1 hg (by first | exact hat | simpa using hat); have hb3 := below_row HB2.out HR2.out k2 hz2'; have HR3 : Hid (Row W0.heap.size w3 (.slice (some ⟨q2, 0, none⟩) ((textB f.name).length + 1) cap2) (headB f)) := k1; have HB3 := hid hb3; have hz3' := hb3.size; have n2 : w3.cell? ⟨w.heap.size, 1, none⟩ = some (.slice a f.items.length cap) := ((hb3.cell (p := ⟨w.heap.size, 1, none⟩) (by show w.heap.size < W0.heap.size; rw [HZW.out]; omega)).trans HBox.out); clear hown1 hg hat k1 k2 k3 hb3 n1)
    go_loopw [5, 7, 26] (fun u _ i wr => ∃ k : Nat, k ≤ f.items.length ∧ i = .int .i64 k ∧ Row W0.heap.size wr u (soFar f k) ∧ Below W0.heap.size W0 wr) (fun _ _ i _ => f.items.length - (intOf i).toNat)
    case atStart => exact ⟨0, Nat.zero_le _, rfl, by rw [soFar_zero]; exact HR3.out, HB3.out⟩
    case round =>
      obtain ⟨k, hk, rfl, hrow, hb⟩ := hrel
      have HRw := hid hrow
      have HBw := hid hb
      have hwr := hb.size
      have hlen := HLen.out k
      clear hrow
      by_cases hlt : k < f.items.length
      · obtain ⟨b, off, rfl, hbl, c0, c1, c2, c3⟩ := (HT.out.later hb).place hlt
        have HSs := hid (soFar_succ f k hlt)
        have hnm := HIt.out k hlt
        clear hb
        generalize f.items[k] = it at *
        obtain ⟨kd, nn, att, xs⟩ := it
        simp only at c0 c1 c2 c3 hnm
        have HBV : Hid (byteV (byteOf kd) = .int .u8 (kd % 256)) := byteV_of _
        go_wp2_with (at_builtin; refine wpList_append_lies _ rfl _ _ _ rfl W0.heap.size 5 i0 _ 1 1 Try.underlying37 hi hz0 hz1 hz2 rfl (by omega) _ (soFar f k).length (bytesV (soFar f k)) rfl (HRw.out.later (((Below.refl _ _).alloc (Nat.le_refl _) _).alloc (by simp) _)) ⟨_, 0, none⟩ 1 1 [byteV (byteOf kd)] rfl rfl (by rw [HBV.out]; exact cell_one_at (by first | rfl | simp)) (fun u hu => by rcases List.mem_singleton.1 hu with rfl; rfl) (by omega) (by unfold maxLen; omega) (by omega) (by first | omega | (simp; omega)) _ rfl ?_; intro q2 cap2 w5 hown1 hg hat hlt2; obtain ⟨k1, k2, k3⟩ := step_byte (w := wr.alloc (.cells #[.int .i64 kd, .int .i64 nn, .int .i64 att, .string xs] 40)) (c := byteOf kd) hown1 hg (by first | exact hat | simpa using hat); have HR5 := hid k1; have hit := (HRw.out.later ((Below.refl _ _).alloc (Nat.le_refl _) _)).keep k2 (by decide) (_root_.Go.heap_alloc_new wr (.cells #[.int .i64 kd, .int .i64 nn, .int .i64 att, .string xs] 40)); have hb5 := below_row (HBw.out.alloc HBw.out.size _) (HRw.out.later ((Below.refl _ _).alloc (Nat.le_refl _) _)) k2 (by simp; omega); have HB5 := hid hb5; have hz5' := hb5.size; have HI5 := hid hit; have m3 : w5.cell? ⟨wr.heap.size, 3, none⟩ = some (.string xs) := (by rw [Lib.cell_of_heap hit]; rfl); clear hown1 hg hat k1 k2 k3 hb5 hit)
        have e5 : (soFar f k ++ [byteOf kd]).length = (soFar f k).length + 1 := len_snoc _ _
        have HC5 := hid (AppendText_any W0.heap.size _ _ xs w5 HR5.out hz5' (by rw [e5]; omega) (by omega))
        refine HC5.out.mono ?_
        rintro e w6 ⟨v6, rfl, hr6, hg6⟩
        have hit6 := HR5.out.keep hg6 (by decide) HI5.out
        have hb6 := below_row HB5.out HR5.out hg6 hz5'
        have HR6 := hid hr6
        have HI6 := hid hit6
        have HB6 := hid hb6
        have hz6' := hb6.size
        have m1 : w6.cell? ⟨wr.heap.size, 1, none⟩ = some (.int .i64 nn) := by rw [Lib.cell_of_heap hit6]; rfl
        have e6 : (soFar f k ++ [byteOf kd] ++ textB xs).length = (soFar f k).length + 1 + (xs.size + 1) := by rw [List.length_append, e5, textB_len]
        clear hr6 hg6 hit6 hb6 m3 HC5
        go_wp2_with fail
        have HC6 := hid (AppendNumber_any W0.heap.size _ _ nn w6 HR6.out hz6' (by rw [e6]; omega))
        refine HC6.out.mono ?_
        rintro e w7 ⟨v7, rfl, hr7, hg7⟩
        have hit7 := HR6.out.keep hg7 (by decide) HI6.out
        have hb7 := below_row HB6.out HR6.out hg7 hz6'
        have HR7 := hid hr7
        have HB7 := hid hb7
        have hz7' := hb7.size
        have m2 : w7.cell? ⟨wr.heap.size, 2, none⟩ = some (.int .i64 att) := by rw [Lib.cell_of_heap hit7]; rfl
        have e7 : (soFar f k ++ [byteOf kd] ++ textB xs ++ numB nn).length = (soFar f k).length + 1 + (xs.size + 1) + 8 := by rw [List.length_append, e6, numB_len]
        clear hr7 hg7 hit7 hb7 m1 HC6
        go_wp2_with fail
        have HC7 := hid (AppendNumber_any W0.heap.size _ _ att w7 HR7.out hz7' (by rw [e7]; omega))
        refine HC7.out.mono ?_
        rintro e w8 ⟨v8, rfl, hr8, hg8⟩
        have hb8 := below_row HB7.out HR7.out hg8 hz7'
        have HR8 := hid hr8
        have HB8 := hid hb8
        clear hr8 hg8 hb8 m2 HC7
        go_wp2_with fail
        go_roundw
        case rel => exact ⟨k + 1, by omega, by go_num, by rw [HSs.out]; have := HR8.out; simp only [List.append_assoc, List.singleton_append] at this; exact this, HB8.out⟩
        case measure => simp [intOf]; omega
      · obtain rfl : k = f.items.length := by omega
        have hcv := row_conv HRw.out (by rw [soFar_all]; simp [faceB, textB])
        rw [soFar_all] at hcv
        have HBf : Hid (Below w.heap.size w wr) := HB0.out.trans (hb.mono (by rw [HZW.out]; omega))
        clear hb
        go_wp2_with fail
        go_ret2
        exact ⟨rfl, HBf.out⟩
  · rw [if_neg h0]
    have hb0 : (chkF f != 0) = true := by rw [bne_iff_ne]; exact h0
    clear hT hs hf h0 hW0 hzW
    rw [HW0.out] at HC
    generalize chkF f = E at *
    go_enter Try.func5, Try.ntmps5
    go_wp2_with fail
    refine HC.out.mono ?_
    rintro e w1 ⟨rfl, hb⟩
    have HB1 : Hid (Below w.heap.size w w1) := bel hb
    clear hb
    go_wp2_with fail
    go_ret2
    exact ⟨rfl, HB1.out⟩

end Go.Proofs.Ytidhbgidkgopfaa
