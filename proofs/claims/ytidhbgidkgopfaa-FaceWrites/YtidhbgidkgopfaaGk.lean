/-
  What the law begins with.
-/
import Derived.Test.YtidhbgidkgopfaaGj
namespace Go.Proofs.Ytidhbgidkgopfaa
open Go.RowKit Go.Shelf
set_option maxRecDepth 100000

set_option maxHeartbeats 1600000 in
theorem begun_of (f : Fc) (S : ByteArray) (hz : S.size = 86)
    (HC : Hid (∀ W, Calls Try.prog 26 #[] W fun e w' => ∃ ad cap, e = .returned (.agg #[.string f.name, .slice ad f.items.length cap]) ∧ ItemsAt w' ad f.items ∧ Below W.heap.size W w'))
    (HWr : Hid (∀ W a cap, ItemsAt W a f.items → Calls Try.prog 5 #[.agg #[.string f.name, .slice a f.items.length cap]] W fun e w' => e = .returned (.tuple #[.string S, .int .i64 0]) ∧ Below W.heap.size W w'))
    (HRd : Hid (∀ W, Calls Try.prog 8 #[.string S] W fun e w' => Below W.heap.size W w' ∧ ∃ ad cap, e = .returned (.tuple #[.agg #[.string f.name, .slice ad f.items.length cap], .int .i64 0]) ∧ ItemsAt w' ad f.items))
    (HRx : Hid (∀ W, Calls Try.prog 8 #[.string (S ++ ⟨#[120]⟩)] W fun e w' => Below W.heap.size W w' ∧ ∃ ad cap, e = .returned (.tuple #[.agg #[.string ⟨#[]⟩, .slice ad 0 cap], .int .i64 1])))
    (HSm : Hid (∀ W a a' cap cap', ItemsAt W a f.items → ItemsAt W a' f.items → Calls Try.prog 10 #[.agg #[.string f.name, .slice a f.items.length cap], .agg #[.string f.name, .slice a' f.items.length cap']] W fun e w' => e = .returned (.bool true) ∧ Below W.heap.size W w'))
    (w : World) : Calls Try.prog 9 #[] w fun e w' => e = .returned (.bool true) ∧ Below w.heap.size w w' := by
  have hln : ¬ 9223372036854775807 < S.size + 1 := by omega
  obtain ⟨nm, its⟩ := f
  simp only at HC HWr HRd HSm
  go_enter Try.func9, Try.ntmps9
  go_wp2_with (first
    | (go_at_call 26; refine (HC.out _).mono ?_; rintro e w1 ⟨ad, cap, rfl, hit, hb1⟩; have HI1 := hid hit; have HB1 := hid hb1; clear hit hb1)
    | (go_at_call 5; refine (HWr.out _ _ _ HI1.out).mono ?_; rintro e w2 ⟨rfl, hb2⟩; have HB2 := hid (HB1.out.trans (hb2.mono HB1.out.size)); clear hb2))
  refine (HRd.out _).mono ?_
  rintro e w3 ⟨hb3, ad3, cap3, rfl, hit⟩
  have HI3 := hid hit
  have HB3 := hid (HB2.out.trans (hb3.mono HB2.out.size))
  clear hb3 hit HI1 HB1 HB2 HRd HWr
  go_wp2_with fail
  obtain ⟨W3, hW3⟩ : ∃ W3 : World, W3 = w3.alloc (.cells #[.string nm, .slice ad3 its.length cap3] 24) := ⟨_, rfl⟩
  rw [← hW3]
  have x0 : W3.cell? ⟨w3.heap.size, 0, none⟩ = some (.string nm) := by rw [hW3]; simp
  have x1 : W3.cell? ⟨w3.heap.size, 1, none⟩ = some (.slice ad3 its.length cap3) := by rw [hW3]; simp
  have hz3 : w3.heap.size < W3.heap.size := by rw [hW3]; simp
  have hb : Below w3.heap.size w3 W3 := by rw [hW3]; exact (Below.refl _ _).alloc (Nat.le_refl _) _
  have HB4 := hid (HB3.out.trans (hb.mono HB3.out.size))
  have HI4 := hid (HI3.out.later hb)
  clear hb hW3 HI3 HB3
  refine (HRx.out _).mono ?_
  rintro e w4 ⟨hb4, ad4, cap4, rfl⟩
  have y0 : w4.cell? ⟨w3.heap.size, 0, none⟩ = some (.string nm) := (hb4.cell (p := ⟨w3.heap.size, 0, none⟩) hz3).trans x0
  have y1 : w4.cell? ⟨w3.heap.size, 1, none⟩ = some (.slice ad3 its.length cap3) := (hb4.cell (p := ⟨w3.heap.size, 1, none⟩) hz3).trans x1
  have hz4 : w3.heap.size < w4.heap.size := Nat.lt_of_lt_of_le hz3 hb4.size
  have HB5 := hid (HB4.out.trans (hb4.mono HB4.out.size))
  have HI5 := hid (HI4.out.later hb4)
  clear hb4 HI4 HB4 x0 x1 HRx
  go_wp2_with fail
  obtain ⟨W5, hW5⟩ : ∃ W5 : World, W5 = w4.alloc (.cells #[.string ⟨#[]⟩, .slice ad4 0 cap4] 24) := ⟨_, rfl⟩
  rw [← hW5]
  have x0 : W5.cell? ⟨w3.heap.size, 0, none⟩ = some (.string nm) := by rw [hW5]; exact (((Below.refl w4.heap.size w4).alloc (Nat.le_refl _) _).cell (p := ⟨w3.heap.size, 0, none⟩) hz4).trans y0
  have x1 : W5.cell? ⟨w3.heap.size, 1, none⟩ = some (.slice ad3 its.length cap3) := by rw [hW5]; exact (((Below.refl w4.heap.size w4).alloc (Nat.le_refl _) _).cell (p := ⟨w3.heap.size, 1, none⟩) hz4).trans y1
  have hz5 : w3.heap.size < W5.heap.size := by rw [hW5]; simp; omega
  have hb : Below w4.heap.size w4 W5 := by rw [hW5]; exact (Below.refl _ _).alloc (Nat.le_refl _) _
  have HB6 := hid (HB5.out.trans (hb.mono HB5.out.size))
  have HI6 := hid (HI5.out.later hb)
  clear hb hW5 HI5 HB5 y0 y1 hz4 hz3
  go_region_held (fun W => W.cell? ⟨w3.heap.size, 0, none⟩ = some (.string nm) ∧ W.cell? ⟨w3.heap.size, 1, none⟩ = some (.slice ad3 its.length cap3)) (first | (go_keep; done) | exact FF.out | exact FG.out)
    (first
      | (go_at_call 26; refine (HC.out _).mono ?_; rintro e w6 ⟨ad6, cap6, rfl, hit6, hb6⟩; have FF : Hid (w6.cell? ⟨w3.heap.size, 0, none⟩ = some (.string nm) ∧ w6.cell? ⟨w3.heap.size, 1, none⟩ = some (.slice ad3 its.length cap3)) := ⟨(hb6.cell (p := ⟨w3.heap.size, 0, none⟩) (by simpa using hz5)).trans (by simp [*]), (hb6.cell (p := ⟨w3.heap.size, 1, none⟩) (by simpa using hz5)).trans (by simp [*])⟩; have HJ6 := hid hit6; have HJ3 : Hid (ItemsAt w6 ad3 its) := HI6.out.later (show Below W5.heap.size W5 w6 from (Below.refl _ _).drew.trans hb6); have HJB : Hid (Below w.heap.size w w6) := HB6.out.trans ((show Below W5.heap.size W5 w6 from (Below.refl _ _).drew.trans hb6).mono HB6.out.size); have HZ6 : Hid (w3.heap.size < w6.heap.size) := Nat.lt_of_lt_of_le (by simpa using hz5) hb6.size; clear hb6 hit6)
      | (go_at_call 10; refine (HSm.out _ _ _ _ _ HJ3.out HJ6.out).mono ?_; rintro e w7 ⟨rfl, hb7⟩; have HJC : Hid (Below w.heap.size w w7) := HJB.out.trans (hb7.mono HJB.out.size); have FG : Hid (w7.cell? ⟨w3.heap.size, 0, none⟩ = some (.string nm) ∧ w7.cell? ⟨w3.heap.size, 1, none⟩ = some (.slice ad3 its.length cap3)) := ⟨(hb7.cell (p := ⟨w3.heap.size, 0, none⟩) HZ6.out).trans FF.out.1, (hb7.cell (p := ⟨w3.heap.size, 1, none⟩) HZ6.out).trans FF.out.2⟩; clear hb7))
  all_goals
    go_wp2_with fail
    go_ret
    exact ⟨rfl, HJC.out⟩

theorem faceBegun_any (w : World) : Calls Try.prog 9 #[] w fun e w' => e = .returned (.bool true) ∧ Below w.heap.size w w' :=
  begun_of cntF (strOf (faceB cntF)) (by rw [strOf_size, cnt_len]) counted_any (fun W a cap h => bg_write cnt_ok W a cap h) (fun W => bg_read cnt_ok W) (fun W => bg_more cnt_ok W) (fun W a a' cap cap' h h' => bg_same cnt_ok W a a' cap cap' h h') w

end Go.Proofs.Ytidhbgidkgopfaa
