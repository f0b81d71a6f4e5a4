/-
  The reference's bytes of a right face.
-/
import Derived.Test.YtidhbgidkgopfaaFi
import Derived.Deep.RegionHeld
import Derived.Deep.RegionLaw
import Derived.Deep.DeepCutAuto
import Derived.Deep.CutBlock
namespace Go.Proofs.Ytidhbgidkgopfaa
open Go.RowKit Go.Shelf
set_option maxRecDepth 100000

def Up (B : Nat) (W0 W : World) : Prop := Below B W0 W ∧ B ≤ W.heap.size
theorem Up.refl (W0 : World) : Up W0.heap.size W0 W0 := ⟨Below.refl _ _, Nat.le_refl _⟩
theorem Up.of {B : Nat} {W0 W : World} (hB : B ≤ W0.heap.size) (h : Below B W0 W) : Up B W0 W := ⟨h, Nat.le_trans hB h.size⟩
theorem Up.drew {B : Nat} {W0 W : World} (h : Up B W0 W) : Up B W0 W.drew := ⟨h.1.drew, h.2⟩
theorem Up.alloc {B : Nat} {W0 W : World} {o : Obj} (h : Up B W0 W) : Up B W0 (W.alloc o) := ⟨h.1.alloc h.2 o, Nat.le_trans h.2 (by simp)⟩
theorem Up.via {B : Nat} {W0 X W : World} (hb : Below X.heap.size X W) (h : Up B W0 X) : Up B W0 W := ⟨h.1.trans (hb.mono h.2), Nat.le_trans h.2 hb.size⟩
theorem Up.out {B : Nat} {W0 W : World} (h : Up B W0 W) : Hid (Below B W0 W) := h.1

theorem keep4 {X w' : World} {b : Nat} {v0 v1 v2 v3 : Option Value} (hb : Below X.heap.size X w') (hlt : b < X.heap.size)
    (hS : X.cell? ⟨b, 0, none⟩ = v0 ∧ X.cell? ⟨b, 1, none⟩ = v1 ∧ X.cell? ⟨b, 2, none⟩ = v2 ∧ X.cell? ⟨b, 3, none⟩ = v3) :
    Hid (w'.cell? ⟨b, 0, none⟩ = v0 ∧ w'.cell? ⟨b, 1, none⟩ = v1 ∧ w'.cell? ⟨b, 2, none⟩ = v2 ∧ w'.cell? ⟨b, 3, none⟩ = v3) :=
  ⟨(hb.cell hlt).trans hS.1, (hb.cell hlt).trans hS.2.1, (hb.cell hlt).trans hS.2.2.1, (hb.cell hlt).trans hS.2.2.2⟩

theorem keepa {Y w' : World} {v : Value} (hb : Below (Y.alloc (.cells #[v] 5)).heap.size (Y.alloc (.cells #[v] 5)) w') : w'.cell? ⟨Y.heap.size, 0, none⟩ = some v ∧ Y.heap.size < w'.heap.size := by
  have h : Y.heap.size < (Y.alloc (.cells #[v] 5)).heap.size := by simp
  exact ⟨(hb.cell (p := ⟨Y.heap.size, 0, none⟩) h).trans (by simp), Nat.lt_of_lt_of_le h hb.size⟩
theorem keepad {Y w' : World} {v : Value} (hb : Below (Y.alloc (.cells #[v] 5)).drew.heap.size (Y.alloc (.cells #[v] 5)).drew w') : w'.cell? ⟨Y.heap.size, 0, none⟩ = some v ∧ Y.heap.size < w'.heap.size := by
  have h : Y.heap.size < (Y.alloc (.cells #[v] 5)).drew.heap.size := by simp
  exact ⟨(hb.cell (p := ⟨Y.heap.size, 0, none⟩) h).trans (by simp), Nat.lt_of_lt_of_le h hb.size⟩
theorem keepc {X w' : World} {b : Nat} {v : Option Value} (hb : Below X.heap.size X w') (hS : X.cell? ⟨b, 0, none⟩ = v) (hlt : b < X.heap.size) : w'.cell? ⟨b, 0, none⟩ = v ∧ b < w'.heap.size :=
  ⟨(hb.cell hlt).trans hS, Nat.lt_of_lt_of_le hlt hb.size⟩

theorem cat2 {a b : List UInt8} : strOf a ++ strOf b = strOf (a ++ b) := strOf_append a b

set_option maxHeartbeats 6400000 in
theorem FaceBytes_any (f : Fc) (a : Option Addr) (cap : Nat) (w : World) (hT : ItemsAt w a f.items) (h0 : chkF f = 0) :
    Calls Try.prog 7 #[.agg #[.string f.name, .slice a f.items.length cap]] w fun e w' => e = .returned (.string (strOf (faceB f))) ∧ Below w.heap.size w w' := by
  obtain ⟨W0, hW0⟩ : ∃ W0 : World, W0 = w.alloc (.cells #[.string f.name, .slice a f.items.length cap] 24) := ⟨_, rfl⟩
  have hzW : W0.heap.size = w.heap.size + 1 := by rw [hW0]; simp
  have HB0 : Hid (Below w.heap.size w W0) := by rw [hW0]; exact (Below.refl _ _).alloc (Nat.le_refl _) _
  have hx0 : W0.cell? ⟨w.heap.size, 0, none⟩ = some (.string f.name) := by rw [hW0]; simp
  have hx1 : W0.cell? ⟨w.heap.size, 1, none⟩ = some (.slice a f.items.length cap) := by rw [hW0]; simp
  have HBox0 := hid hx0
  have HBox := hid hx1
  have HT := hid (hT.later HB0.out)
  have HW0 := hid hW0
  have HZW := hid hzW
  obtain ⟨c16, cn, -, cit⟩ := chk_zero h0
  have c8 := nameOk_size cn
  have HIt : Hid (∀ k (h : k < f.items.length), f.items[k].name.size ≤ 8) := fun k h => item_name (List.all_eq_true.1 cit _ (List.getElem_mem h))
  have HLen := hid (soFar_len h0)
  have hz1 : (strOf (textB f.name)).size ≤ 9 := by rw [strOf_size, textB_len]; omega
  have hz2 : (strOf [byteOf f.items.length]).size = 1 := by rw [strOf_size]; rfl
  have HTx := hid (fun W => textBytes_any f.name W (by omega))
  have hln : ¬ 9223372036854775807 < (strOf (textB f.name)).size + (strOf [byteOf f.items.length]).size := by omega
  have HHd : Hid (strOf (textB f.name) ++ strOf [byteOf f.items.length] = strOf (headB f)) := cat2
  have hcv : ∀ (W : World) (b : Nat), W.cell? ⟨b, 0, none⟩ = some (.int .u8 (f.items.length : Int)) → (convert 37 9 (.slice (some ⟨b, 0, none⟩) 1 1)).run Try.prog W = .ok (.string (strOf [byteOf f.items.length])) W := fun W b h => conv_one W b 1 f.items.length (by rw [h, Int.emod_eq_of_lt (by omega) (by omega)])
  have hw8 : IntKind.u8.wrap (f.items.length : Int) = f.items.length := by rw [IntKind.wrap_u8]; omega
  clear hT h0 cn cit hW0 hzW
  generalize hA : strOf (textB f.name) = A at *
  generalize hB : strOf [byteOf f.items.length] = Bt at *
  clear hA hB
  go_enter Try.func7, Try.ntmps7
  go_wp2_with fail
  rw [← HW0.out]
  go_cut [3] from 6 (fun v wx => v = .string (strOf (headB f)) ∧ Hid (Below W0.heap.size W0 wx))
  case first =>
    have HB00 : Hid (Below W0.heap.size W0 W0.drew) := (Below.refl _ _).drew
    go_region_held (fun W => W.cell? ⟨w.heap.size, 0, none⟩ = some (.string f.name) ∧ W.cell? ⟨w.heap.size, 1, none⟩ = some (.slice a f.items.length cap)) (first | (go_keep; done) | exact FF.out)
      ((go_at_call 18; refine (HTx.out _).mono ?_; rintro e w' ⟨rfl, hb⟩; obtain ⟨fc, ff⟩ := bcell hb; have FF : Hid (w'.cell? ⟨w.heap.size, 0, none⟩ = some (.string f.name) ∧ w'.cell? ⟨w.heap.size, 1, none⟩ = some (.slice a f.items.length cap)) := ⟨(fc _ _ (by have := HZW.out; simp; omega)).trans (by simp [*]), (fc _ _ (by have := HZW.out; simp; omega)).trans (by simp [*])⟩))
    all_goals
      go_wp2_with fail
      go_meet
      exact ⟨by rw [HHd.out], Up.out (by (repeat (first | assumption | exact Up.refl _ | refine Up.alloc ?_ | refine Up.drew ?_ | refine Up.via ‹Below _ _ _› ?_)))⟩
  case rest =>
    obtain ⟨rfl, HBc⟩ := hcut
    have hzc := HBc.out.size
    have y1 : wc.cell? ⟨w.heap.size, 1, none⟩ = some (.slice a f.items.length cap) := (HBc.out.cell (p := ⟨w.heap.size, 1, none⟩) (by show w.heap.size < W0.heap.size; rw [HZW.out]; omega)).trans HBox.out
    clear hcv hw8 hln HHd HTx hx0 hx1 hz1 hz2
    go_wp2_with fail
    go_loopw [3, 4, 5] (fun u i _ wr => ∃ k : Nat, k ≤ f.items.length ∧ i = .int .i64 k ∧ u = .string (strOf (soFar f k)) ∧ Below W0.heap.size W0 wr) (fun _ i _ _ => f.items.length - (intOf i).toNat)
    case atStart => exact ⟨0, Nat.zero_le _, rfl, by rw [soFar_zero], HBc.out⟩
    case round =>
      obtain ⟨k, hk, rfl, rfl, hb⟩ := hrel
      have HBw := hid hb
      have hwr := hb.size
      have hlen := HLen.out k
      have y2 : wr.cell? ⟨w.heap.size, 1, none⟩ = some (.slice a f.items.length cap) := (hb.cell (p := ⟨w.heap.size, 1, none⟩) (by show w.heap.size < W0.heap.size; rw [HZW.out]; omega)).trans HBox.out
      have hwz : w.heap.size < wr.heap.size := by have := HZW.out; omega
      by_cases hlt : k < f.items.length
      · obtain ⟨b, off, rfl, hbl, c0, c1, c2, c3⟩ := (HT.out.later hb).place hlt
        have HSs := hid (soFar_succ f k hlt)
        have hnm := HIt.out k hlt
        clear hb y1 HBc hzc
        generalize f.items[k] = it at *
        obtain ⟨kd, nn, att, xs⟩ := it
        simp only at c0 c1 c2 c3 hnm
        have HTx := hid (fun W => textBytes_any xs W (by omega))
        obtain ⟨NB, hNB⟩ : ∃ NB : Int → ByteArray, ∀ n, NB n = strOf (numB n) := ⟨_, fun _ => rfl⟩
        have HN : Hid (∀ n W, Calls Try.prog 19 #[.int .i64 n] W fun e w' => e = .returned (.string (NB n)) ∧ Below W.heap.size W w') := fun n W => by rw [hNB]; exact numBytes_any n W
        have hw8 : IntKind.u8.wrap kd = kd % 256 := IntKind.wrap_u8 _
        have hcv : ∀ (W : World) (b : Nat), W.cell? ⟨b, 0, none⟩ = some (.int .u8 (kd % 256)) → (convert 37 9 (.slice (some ⟨b, 0, none⟩) 1 1)).run Try.prog W = .ok (.string (strOf [byteOf kd])) W := fun W b h => conv_one W b 1 kd h
        have HCat : Hid (strOf (soFar f k) ++ strOf [byteOf kd] ++ strOf (textB xs) ++ strOf (numB nn) ++ strOf (numB att) = strOf (soFar f (k + 1))) := by
          show strOf (soFar f k) ++ strOf [byteOf kd] ++ strOf (textB xs) ++ strOf (numB nn) ++ strOf (numB att) = strOf (soFar f (k + 1))
          rw [HSs.out]
          simp only [strOf_append]
          congr 1
          simp [itemB]
        have z1 : (strOf (soFar f k)).size ≤ 426 := by rw [strOf_size]; exact hlen
        have z2 : (strOf [byteOf kd]).size ≤ 1 := by rw [strOf_size]; exact Nat.le_refl _
        have z3 : (strOf (textB xs)).size ≤ 9 := by rw [strOf_size, textB_len]; omega
        have z4 : ∀ n, (NB n).size ≤ 8 := fun n => by rw [hNB, strOf_size]; exact Nat.le_refl _
        have z5 := z4 nn
        have z6 := z4 att
        rw [← hNB, ← hNB] at HCat
        clear hNB z4
        generalize strOf [byteOf kd] = S2 at *
        generalize strOf (textB xs) = S3 at *
        generalize hS1 : strOf (soFar f k) = S1 at *
        clear hS1
        have l1 : ¬ 9223372036854775807 < S1.size + S2.size := by omega
        have l2 : ¬ 9223372036854775807 < S1.size + S2.size + S3.size := by omega
        have l3 : ¬ 9223372036854775807 < S1.size + S2.size + S3.size + (NB nn).size := by omega
        have l4 : ¬ 9223372036854775807 < S1.size + S2.size + S3.size + (NB nn).size + (NB att).size := by omega
        go_upto_block 1 with fail
        go_cut [3] from 23 to 46 (fun u wx => u = .string (strOf (soFar f (k + 1))) ∧ Hid (Below W0.heap.size W0 wx))
        case first =>
          go_wp2_with fail
          have HBi : Hid (Below W0.heap.size W0 (wr.alloc (.cells #[.int .i64 kd, .int .i64 nn, .int .i64 att, .string xs] 40))) := HBw.out.alloc HBw.out.size _
          have d0 : (wr.alloc (.cells #[.int .i64 kd, .int .i64 nn, .int .i64 att, .string xs] 40)).cell? ⟨wr.heap.size, 0, none⟩ = some (.int .i64 kd) := by simp
          have d1 : (wr.alloc (.cells #[.int .i64 kd, .int .i64 nn, .int .i64 att, .string xs] 40)).cell? ⟨wr.heap.size, 1, none⟩ = some (.int .i64 nn) := by simp
          have d2 : (wr.alloc (.cells #[.int .i64 kd, .int .i64 nn, .int .i64 att, .string xs] 40)).cell? ⟨wr.heap.size, 2, none⟩ = some (.int .i64 att) := by simp
          have d3 : (wr.alloc (.cells #[.int .i64 kd, .int .i64 nn, .int .i64 att, .string xs] 40)).cell? ⟨wr.heap.size, 3, none⟩ = some (.string xs) := by simp
          have hsz : wr.heap.size < (wr.alloc (.cells #[.int .i64 kd, .int .i64 nn, .int .i64 att, .string xs] 40)).heap.size := by simp
          clear c0 c1 c2 c3 HSs
          generalize wr.alloc (.cells #[.int .i64 kd, .int .i64 nn, .int .i64 att, .string xs] 40) = Wi at *
          have HBd : Hid (Below W0.heap.size W0 Wi.drew) := HBi.out.drew
          have HUp : Up W0.heap.size W0 Wi := Up.of (Nat.le_refl _) HBi.out
          go_region_held (fun W => W.cell? ⟨wr.heap.size, 0, none⟩ = some (.int .i64 kd) ∧ W.cell? ⟨wr.heap.size, 1, none⟩ = some (.int .i64 nn) ∧ W.cell? ⟨wr.heap.size, 2, none⟩ = some (.int .i64 att) ∧ W.cell? ⟨wr.heap.size, 3, none⟩ = some (.string xs)) (first | (go_keep; done) | exact FF.out)
            (first
              | (go_at_call 18; refine (HTx.out _).mono ?_; rintro e w' ⟨rfl, hb⟩; have hz6 : wr.heap.size < w'.heap.size := Nat.lt_of_lt_of_le (by first | omega | (simp; omega)) hb.size; have FF := keep4 (b := wr.heap.size) hb (by first | omega | (simp; omega)) (by first | assumption | exact FF.out); (first | (refine And.elim ?_ (keepad hb); intro fq hq) | (refine And.elim ?_ (keepa hb); intro fq hq) | (refine And.elim ?_ (keepc hb fq hq); intro fq hq) | skip))
              | (go_at_call 19; refine (HN.out _ _).mono ?_; rintro e w' ⟨rfl, hb⟩; have hz6 : wr.heap.size < w'.heap.size := Nat.lt_of_lt_of_le (by first | omega | (simp; omega)) hb.size; have FF := keep4 (b := wr.heap.size) hb (by first | omega | (simp; omega)) (by first | assumption | exact FF.out); (first | (refine And.elim ?_ (keepad hb); intro fq hq) | (refine And.elim ?_ (keepa hb); intro fq hq) | (refine And.elim ?_ (keepc hb fq hq); intro fq hq) | skip)))
          all_goals
            go_wp2_with fail
            go_meet
            exact ⟨by rw [HCat.out], Up.out (by (repeat (first | assumption | exact Up.refl _ | refine Up.alloc ?_ | refine Up.drew ?_ | refine Up.via ‹Below _ _ _› ?_)))⟩
        case rest =>
          obtain ⟨rfl, HBc⟩ := hcut
          go_wp2_with fail
          go_roundw
          case rel => exact ⟨k + 1, by omega, by go_num, rfl, HBc.out⟩
          case measure => simp [intOf]; omega
      · obtain rfl : k = f.items.length := by omega
        have HBf : Hid (Below w.heap.size w wr) := HB0.out.trans (hb.mono (by rw [HZW.out]; omega))
        rw [soFar_all]
        clear hb
        go_wp2_with fail
        go_ret
        exact ⟨rfl, HBf.out⟩

end Go.Proofs.Ytidhbgidkgopfaa
