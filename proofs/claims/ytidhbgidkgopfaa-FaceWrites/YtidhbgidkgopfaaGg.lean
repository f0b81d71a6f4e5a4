/-
  The reference's SameFaces at two copies of one face.
-/
import Derived.Test.YtidhbgidkgopfaaGf
import Derived.Deep.QuietTactic
import Derived.BigQuiet
namespace Go.Proofs.Ytidhbgidkgopfaa
open Go.RowKit Go.Shelf
set_option maxRecDepth 100000

set_option maxHeartbeats 1600000 in
theorem SameFaces_same (f : Fc) (a a' : Option Addr) (cap cap' : Nat) (w : World) (hA : ItemsAt w a f.items) (hA' : ItemsAt w a' f.items) (hl : f.items.length ≤ 1000000000000000) :
    Calls Try.prog 10 #[.agg #[.string f.name, .slice a f.items.length cap], .agg #[.string f.name, .slice a' f.items.length cap']] w fun e w' => e = .returned (.bool true) ∧ Below w.heap.size w w' := by
  obtain ⟨W0, hW0⟩ : ∃ W0, W0 = (w.alloc (.cells #[.string f.name, .slice a f.items.length cap] 24)).alloc (.cells #[.string f.name, .slice a' f.items.length cap'] 24) := ⟨_, rfl⟩
  have hB : Below w.heap.size w W0 := by rw [hW0]; exact ((Below.refl _ _).alloc (Nat.le_refl _) _).alloc (by simp) _
  have hX : Bf W0 w.heap.size (.string f.name) (.slice a f.items.length cap) := by rw [hW0]; exact (Bf.new w 24 _ _).alloc _
  have hY : Bf W0 (w.heap.size + 1) (.string f.name) (.slice a' f.items.length cap') := by
    rw [hW0]
    have := Bf.new (w.alloc (.cells #[.string f.name, .slice a f.items.length cap] 24)) 24 (.string f.name) (.slice a' f.items.length cap')
    simpa using this
  have HI := hid (hA.later hB)
  have HI' := hid (hA'.later hB)
  have HB := hid hB
  have HW := hid hW0
  obtain ⟨_, x0, x1, _, _⟩ := hX
  obtain ⟨hYlt, y0, y1, _, _⟩ := hY
  clear hA hA' hB hW0
  go_enter Try.func10, Try.ntmps10
  go_wp2_with fail
  rw [← HW.out]
  clear HW
  go_wp2_with fail
  have HX0 := hid x1
  have HY0 := hid y1
  have hz0 : w.heap.size + 1 < W0.heap.size := hYlt
  go_loopw [5] (fun i wr => ∃ k : Nat, k ≤ f.items.length ∧ i = .int .i64 k ∧ Below W0.heap.size W0 wr) (fun i _ => f.items.length - (intOf i).toNat)
  case atStart => exact ⟨0, Nat.zero_le _, rfl, Below.refl _ _⟩
  case round =>
    obtain ⟨k, hk, rfl, hb⟩ := hrel
    have HBw := hid hb
    have x2 : wr.cell? ⟨w.heap.size, 1, none⟩ = some (.slice a f.items.length cap) := (hb.cell (p := ⟨w.heap.size, 1, none⟩) (by show w.heap.size < _; omega)).trans HX0.out
    have y2 : wr.cell? ⟨w.heap.size + 1, 1, none⟩ = some (.slice a' f.items.length cap') := (hb.cell (p := ⟨w.heap.size + 1, 1, none⟩) (by show w.heap.size + 1 < _; omega)).trans HY0.out
    by_cases hlt : k < f.items.length
    · obtain ⟨b, off, rfl, hbl, c0, c1, c2, c3⟩ := (HI.out.later hb).place hlt
      obtain ⟨b', off', rfl, hbl', d0, d1, d2, d3⟩ := (HI'.out.later hb).place hlt
      clear hb x0 x1 y0 y1
      generalize f.items[k] = it at *
      obtain ⟨kd, nn, att, xs⟩ := it
      simp only at c0 c1 c2 c3 d0 d1 d2 d3
      go_wp2_with (go_quiet (fail))
      go_roundw
      case rel => exact ⟨k + 1, by omega, by go_num, HBw.out.os, HBw.out.tape, HBw.out.output, HBw.out.size, HBw.out.block⟩
      case measure => simp [intOf]; omega
    · obtain rfl : k = f.items.length := by omega
      have HBf := hid (HB.out.trans (hb.mono HB.out.size))
      clear hb
      go_wp2_with fail
      go_returns
      exact ⟨rfl, HBf.out⟩

end Go.Proofs.Ytidhbgidkgopfaa
