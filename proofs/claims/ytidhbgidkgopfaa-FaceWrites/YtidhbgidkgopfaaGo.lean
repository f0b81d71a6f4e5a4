/-
  FaceWrites, as a contract: whatever face and text are handed in, it answers true.
-/
import Derived.Test.YtidhbgidkgopfaaGn
namespace Go.Proofs.Ytidhbgidkgopfaa
open Go.RowKit Go.Shelf
set_option maxRecDepth 100000

def CkSays (nm : ByteArray) (a : Option Addr) (n cap : Nat) (c : Int) (W : World) : Prop :=
  Calls Try.prog 6 #[.agg #[.string nm, .slice a n cap]] W fun e w' => e = .returned (.int .i64 c) ∧ Below W.heap.size W w'
def FbSays (nm : ByteArray) (a : Option Addr) (n cap : Nat) (S : ByteArray) (W : World) : Prop :=
  Calls Try.prog 7 #[.agg #[.string nm, .slice a n cap]] W fun e w' => e = .returned (.string S) ∧ Below W.heap.size W w'
def FrSays (T : ByteArray) (nm : ByteArray) (its : List It) (ok : Bool) (W : World) : Prop :=
  Calls Try.prog 11 #[.string T] W fun e w' => Below W.heap.size W w' ∧ ∃ ad cap, e = .returned (.tuple #[.agg #[.string nm, .slice ad its.length cap], .bool ok]) ∧ ItemsAt w' ad its
def SmSays (gn : ByteArray) (gi : List It) (W : World) : Prop :=
  ∀ a a' cap cap', ItemsAt W a gi → ItemsAt W a' gi → Calls Try.prog 10 #[.agg #[.string gn, .slice a gi.length cap], .agg #[.string gn, .slice a' gi.length cap']] W fun e w' => e = .returned (.bool true) ∧ Below W.heap.size W w'

set_option maxHeartbeats 1600000 in
theorem writes_big0 (nm : ByteArray) (its : List It) (a : Option Addr) (cap : Nat) (S : ByteArray) (T : ByteArray) (hT : 32768 < T.size) (gn : ByteArray) (gi : List It) (hgn : gn = ⟨#[]⟩) (hgi : gi = []) (w : World)
    (HW : Hid (∀ W, Below w.heap.size w W → WrSays nm a its.length cap S 0 W))
    (HK : Hid (∀ W, Below w.heap.size w W → CkSays nm a its.length cap 0 W))
    (HF : Hid (∀ W, Below w.heap.size w W → FbSays nm a its.length cap S W))
    (HR : Hid (∀ W, RdSays T gn gi 2 W))
    (HS : Hid (∀ W, SmSays gn gi W)) :
    Calls Try.prog 3 #[.agg #[.string nm, .slice a its.length cap], .string T] w fun e w' => e = .returned (.bool true) ∧ Below w.heap.size w w' := by
  have HBg : Hid (∀ W, Calls Try.prog 9 #[] W fun e w' => e = .returned (.bool true) ∧ Below W.heap.size W w') := faceBegun_any
  obtain ⟨W0, hW0⟩ : ∃ W0 : World, W0 = w.alloc (.cells #[.string nm, .slice a its.length cap] 24) := ⟨_, rfl⟩
  have hb0 : Below w.heap.size w W0 := by rw [hW0]; exact (Below.refl _ _).alloc (Nat.le_refl _) _
  have x0 : W0.cell? ⟨w.heap.size, 0, none⟩ = some (.string nm) := by rw [hW0]; simp
  have x1 : W0.cell? ⟨w.heap.size, 1, none⟩ = some (.slice a its.length cap) := by rw [hW0]; simp
  have hz0 : w.heap.size < W0.heap.size := by rw [hW0]; simp
  have HB0 := hid hb0
  have HW0 := hid hW0
  clear hb0 hW0
  subst hgn
  subst hgi
  simp only [SmSays, RdSays, List.length_nil] at HS HR
  go_enter Try.func3, Try.ntmps3
  go_wp2_with fail
  rw [← HW0.out]
  go_wp2_with fail
  refine (HW.out _ HB0.out).mono ?_
  rintro e w1 ⟨rfl, hb1⟩
  replace x0 : w1.cell? ⟨w.heap.size, 0, none⟩ = some (.string nm) := (hb1.cell (p := ⟨w.heap.size, 0, none⟩) hz0).trans x0
  have x1 : w1.cell? ⟨w.heap.size, 1, none⟩ = some (.slice a its.length cap) := (hb1.cell (p := ⟨w.heap.size, 1, none⟩) hz0).trans x1
  have hz1 : w.heap.size < w1.heap.size := Nat.lt_of_lt_of_le hz0 hb1.size
  have HB1 := hid (HB0.out.trans (hb1.mono HB0.out.size))
  clear hb1 hz0 HB0
  go_wp2_with fail
  refine (HK.out _ HB1.out).mono ?_
  rintro e w2 ⟨rfl, hb2⟩
  have x0 : w2.cell? ⟨w.heap.size, 0, none⟩ = some (.string nm) := (hb2.cell (p := ⟨w.heap.size, 0, none⟩) hz1).trans x0
  have x1 : w2.cell? ⟨w.heap.size, 1, none⟩ = some (.slice a its.length cap) := (hb2.cell (p := ⟨w.heap.size, 1, none⟩) hz1).trans x1
  have hz2 : w.heap.size < w2.heap.size := Nat.lt_of_lt_of_le hz1 hb2.size
  have HB2 := hid (HB1.out.trans (hb2.mono HB1.out.size))
  clear hb2 hz1 HB1
  go_wp2_with fail
  refine (HF.out _ HB2.out).mono ?_
  rintro e w3 ⟨rfl, hb3⟩
  have x0 : w3.cell? ⟨w.heap.size, 0, none⟩ = some (.string nm) := (hb3.cell (p := ⟨w.heap.size, 0, none⟩) hz2).trans x0
  have x1 : w3.cell? ⟨w.heap.size, 1, none⟩ = some (.slice a its.length cap) := (hb3.cell (p := ⟨w.heap.size, 1, none⟩) hz2).trans x1
  have hz3 : w.heap.size < w3.heap.size := Nat.lt_of_lt_of_le hz2 hb3.size
  have HB3 := hid (HB2.out.trans (hb3.mono HB2.out.size))
  clear hb3 hz2 HB2
  go_wp2_with fail
  clear x0 x1
  refine (HR.out _).mono ?_
  rintro e w4 ⟨hb4, ad4, cap4, rfl, hit4⟩
  have HB4 := hid (HB3.out.trans (hb4.mono HB3.out.size))
  clear hz3
  obtain ⟨W4, hW4⟩ : ∃ W4 : World, W4 = w4.alloc (.cells #[.string ⟨#[]⟩, .slice ad4 0 cap4] 24) := ⟨_, rfl⟩
  have HI4 : Hid (ItemsAt W4 ad4 ([] : List It)) := by rw [hW4]; exact hit4.later ((Below.refl _ _).alloc (Nat.le_refl _) _)
  have HC4 : Hid (Below w.heap.size w W4) := by rw [hW4]; exact HB4.out.alloc HB4.out.size _
  have y0 : W4.cell? ⟨w4.heap.size, 0, none⟩ = some (.string ⟨#[]⟩) := by rw [hW4]; simp
  have y1 : W4.cell? ⟨w4.heap.size, 1, none⟩ = some (.slice ad4 0 cap4) := by rw [hW4]; simp
  have hy : w4.heap.size < W4.heap.size := by rw [hW4]; simp
  have HW4 := hid hW4
  clear hW4 hb4 hit4 HB4
  go_wp2_with fail
  rw [← HW4.out]
  go_wp2_with (first
    | (go_at_call 9; refine (HBg.out _).mono ?_; rintro e w5 ⟨rfl, hb5⟩; have z0 := (hb5.cell (p := ⟨w4.heap.size, 0, none⟩) hy).trans y0; have z1 := (hb5.cell (p := ⟨w4.heap.size, 1, none⟩) hy).trans y1; have HB5 := hid (HC4.out.trans (hb5.mono HC4.out.size)); have HI5 := hid (HI4.out.later hb5); clear hb5)
    | (go_at_call 10; refine (HS.out _ _ _ _ _ HI5.out (Or.inl rfl)).mono ?_; rintro e w6 ⟨rfl, hb6⟩; have HB6 := hid (HB5.out.trans (hb6.mono HB5.out.size)); clear hb6))
  go_ret
  exact ⟨rfl, HB6.out⟩

set_option maxHeartbeats 1600000 in
theorem writes_big1 (nm : ByteArray) (its : List It) (a : Option Addr) (cap : Nat) (c : Int) (hc : ¬ c = 0) (T : ByteArray) (hT : 32768 < T.size) (gn : ByteArray) (gi : List It) (hgn : gn = ⟨#[]⟩) (hgi : gi = []) (w : World)
    (HW : Hid (∀ W, Below w.heap.size w W → WrSays nm a its.length cap ⟨#[]⟩ c W))
    (HK : Hid (∀ W, Below w.heap.size w W → CkSays nm a its.length cap c W))
    (HR : Hid (∀ W, RdSays T gn gi 2 W))
    (HS : Hid (∀ W, SmSays gn gi W)) :
    Calls Try.prog 3 #[.agg #[.string nm, .slice a its.length cap], .string T] w fun e w' => e = .returned (.bool true) ∧ Below w.heap.size w w' := by
  have HBg : Hid (∀ W, Calls Try.prog 9 #[] W fun e w' => e = .returned (.bool true) ∧ Below W.heap.size W w') := faceBegun_any
  obtain ⟨W0, hW0⟩ : ∃ W0 : World, W0 = w.alloc (.cells #[.string nm, .slice a its.length cap] 24) := ⟨_, rfl⟩
  have hb0 : Below w.heap.size w W0 := by rw [hW0]; exact (Below.refl _ _).alloc (Nat.le_refl _) _
  have x0 : W0.cell? ⟨w.heap.size, 0, none⟩ = some (.string nm) := by rw [hW0]; simp
  have x1 : W0.cell? ⟨w.heap.size, 1, none⟩ = some (.slice a its.length cap) := by rw [hW0]; simp
  have hz0 : w.heap.size < W0.heap.size := by rw [hW0]; simp
  have HB0 := hid hb0
  have HW0 := hid hW0
  clear hb0 hW0
  subst hgn
  subst hgi
  simp only [SmSays, RdSays, List.length_nil] at HS HR
  go_enter Try.func3, Try.ntmps3
  go_wp2_with fail
  rw [← HW0.out]
  go_wp2_with fail
  refine (HW.out _ HB0.out).mono ?_
  rintro e w1 ⟨rfl, hb1⟩
  replace x0 : w1.cell? ⟨w.heap.size, 0, none⟩ = some (.string nm) := (hb1.cell (p := ⟨w.heap.size, 0, none⟩) hz0).trans x0
  have x1 : w1.cell? ⟨w.heap.size, 1, none⟩ = some (.slice a its.length cap) := (hb1.cell (p := ⟨w.heap.size, 1, none⟩) hz0).trans x1
  have hz1 : w.heap.size < w1.heap.size := Nat.lt_of_lt_of_le hz0 hb1.size
  have HB1 := hid (HB0.out.trans (hb1.mono HB0.out.size))
  clear hb1 hz0 HB0
  go_wp2_with fail
  refine (HK.out _ HB1.out).mono ?_
  rintro e w2 ⟨rfl, hb2⟩
  have x0 : w2.cell? ⟨w.heap.size, 0, none⟩ = some (.string nm) := (hb2.cell (p := ⟨w.heap.size, 0, none⟩) hz1).trans x0
  have x1 : w2.cell? ⟨w.heap.size, 1, none⟩ = some (.slice a its.length cap) := (hb2.cell (p := ⟨w.heap.size, 1, none⟩) hz1).trans x1
  have hz2 : w.heap.size < w2.heap.size := Nat.lt_of_lt_of_le hz1 hb2.size
  have HB2 := hid (HB1.out.trans (hb2.mono HB1.out.size))
  clear hb2 hz1 HB1
  go_wp2_with fail
  clear x0 x1
  refine (HR.out _).mono ?_
  rintro e w4 ⟨hb4, ad4, cap4, rfl, hit4⟩
  have HB4 := hid (HB2.out.trans (hb4.mono HB2.out.size))
  clear hz2
  obtain ⟨W4, hW4⟩ : ∃ W4 : World, W4 = w4.alloc (.cells #[.string ⟨#[]⟩, .slice ad4 0 cap4] 24) := ⟨_, rfl⟩
  have HI4 : Hid (ItemsAt W4 ad4 ([] : List It)) := by rw [hW4]; exact hit4.later ((Below.refl _ _).alloc (Nat.le_refl _) _)
  have HC4 : Hid (Below w.heap.size w W4) := by rw [hW4]; exact HB4.out.alloc HB4.out.size _
  have y0 : W4.cell? ⟨w4.heap.size, 0, none⟩ = some (.string ⟨#[]⟩) := by rw [hW4]; simp
  have y1 : W4.cell? ⟨w4.heap.size, 1, none⟩ = some (.slice ad4 0 cap4) := by rw [hW4]; simp
  have hy : w4.heap.size < W4.heap.size := by rw [hW4]; simp
  have HW4 := hid hW4
  clear hW4 hb4 hit4 HB4
  go_wp2_with fail
  rw [← HW4.out]
  go_wp2_with (first
    | (go_at_call 9; refine (HBg.out _).mono ?_; rintro e w5 ⟨rfl, hb5⟩; have z0 := (hb5.cell (p := ⟨w4.heap.size, 0, none⟩) hy).trans y0; have z1 := (hb5.cell (p := ⟨w4.heap.size, 1, none⟩) hy).trans y1; have HB5 := hid (HC4.out.trans (hb5.mono HC4.out.size)); have HI5 := hid (HI4.out.later hb5); clear hb5)
    | (go_at_call 10; refine (HS.out _ _ _ _ _ HI5.out (Or.inl rfl)).mono ?_; rintro e w6 ⟨rfl, hb6⟩; have HB6 := hid (HB5.out.trans (hb6.mono HB5.out.size)); clear hb6))
  go_ret
  exact ⟨rfl, HB6.out⟩

set_option maxHeartbeats 1600000 in
theorem writes_ok0 (nm : ByteArray) (its : List It) (a : Option Addr) (cap : Nat) (S : ByteArray) (T : ByteArray) (hT : ¬ 32768 < T.size) (gn : ByteArray) (gi : List It) (w : World)
    (HW : Hid (∀ W, Below w.heap.size w W → WrSays nm a its.length cap S 0 W))
    (HK : Hid (∀ W, Below w.heap.size w W → CkSays nm a its.length cap 0 W))
    (HF : Hid (∀ W, Below w.heap.size w W → FbSays nm a its.length cap S W))
    (HR : Hid (∀ W, RdSays T gn gi 0 W))
    (HFr : Hid (∀ W, FrSays T gn gi true W))
    (HS : Hid (∀ W, SmSays gn gi W)) :
    Calls Try.prog 3 #[.agg #[.string nm, .slice a its.length cap], .string T] w fun e w' => e = .returned (.bool true) ∧ Below w.heap.size w w' := by
  have HBg : Hid (∀ W, Calls Try.prog 9 #[] W fun e w' => e = .returned (.bool true) ∧ Below W.heap.size W w') := faceBegun_any
  obtain ⟨W0, hW0⟩ : ∃ W0 : World, W0 = w.alloc (.cells #[.string nm, .slice a its.length cap] 24) := ⟨_, rfl⟩
  have hb0 : Below w.heap.size w W0 := by rw [hW0]; exact (Below.refl _ _).alloc (Nat.le_refl _) _
  have x0 : W0.cell? ⟨w.heap.size, 0, none⟩ = some (.string nm) := by rw [hW0]; simp
  have x1 : W0.cell? ⟨w.heap.size, 1, none⟩ = some (.slice a its.length cap) := by rw [hW0]; simp
  have hz0 : w.heap.size < W0.heap.size := by rw [hW0]; simp
  have HB0 := hid hb0
  have HW0 := hid hW0
  clear hb0 hW0
  go_enter Try.func3, Try.ntmps3
  go_wp2_with fail
  rw [← HW0.out]
  go_wp2_with fail
  refine (HW.out _ HB0.out).mono ?_
  rintro e w1 ⟨rfl, hb1⟩
  replace x0 : w1.cell? ⟨w.heap.size, 0, none⟩ = some (.string nm) := (hb1.cell (p := ⟨w.heap.size, 0, none⟩) hz0).trans x0
  have x1 : w1.cell? ⟨w.heap.size, 1, none⟩ = some (.slice a its.length cap) := (hb1.cell (p := ⟨w.heap.size, 1, none⟩) hz0).trans x1
  have hz1 : w.heap.size < w1.heap.size := Nat.lt_of_lt_of_le hz0 hb1.size
  have HB1 := hid (HB0.out.trans (hb1.mono HB0.out.size))
  clear hb1 hz0 HB0
  go_wp2_with fail
  refine (HK.out _ HB1.out).mono ?_
  rintro e w2 ⟨rfl, hb2⟩
  have x0 : w2.cell? ⟨w.heap.size, 0, none⟩ = some (.string nm) := (hb2.cell (p := ⟨w.heap.size, 0, none⟩) hz1).trans x0
  have x1 : w2.cell? ⟨w.heap.size, 1, none⟩ = some (.slice a its.length cap) := (hb2.cell (p := ⟨w.heap.size, 1, none⟩) hz1).trans x1
  have hz2 : w.heap.size < w2.heap.size := Nat.lt_of_lt_of_le hz1 hb2.size
  have HB2 := hid (HB1.out.trans (hb2.mono HB1.out.size))
  clear hb2 hz1 HB1
  go_wp2_with fail
  refine (HF.out _ HB2.out).mono ?_
  rintro e w3 ⟨rfl, hb3⟩
  have x0 : w3.cell? ⟨w.heap.size, 0, none⟩ = some (.string nm) := (hb3.cell (p := ⟨w.heap.size, 0, none⟩) hz2).trans x0
  have x1 : w3.cell? ⟨w.heap.size, 1, none⟩ = some (.slice a its.length cap) := (hb3.cell (p := ⟨w.heap.size, 1, none⟩) hz2).trans x1
  have hz3 : w.heap.size < w3.heap.size := Nat.lt_of_lt_of_le hz2 hb3.size
  have HB3 := hid (HB2.out.trans (hb3.mono HB2.out.size))
  clear hb3 hz2 HB2
  go_wp2_with fail
  clear x0 x1
  refine (HR.out _).mono ?_
  rintro e w4 ⟨hb4, ad4, cap4, rfl, hit4⟩
  have HB4 := hid (HB3.out.trans (hb4.mono HB3.out.size))
  clear hz3
  obtain ⟨W4, hW4⟩ : ∃ W4 : World, W4 = w4.alloc (.cells #[.string gn, .slice ad4 gi.length cap4] 24) := ⟨_, rfl⟩
  have HI4 : Hid (ItemsAt W4 ad4 gi) := by rw [hW4]; exact hit4.later ((Below.refl _ _).alloc (Nat.le_refl _) _)
  have HC4 : Hid (Below w.heap.size w W4) := by rw [hW4]; exact HB4.out.alloc HB4.out.size _
  have y0 : W4.cell? ⟨w4.heap.size, 0, none⟩ = some (.string gn) := by rw [hW4]; simp
  have y1 : W4.cell? ⟨w4.heap.size, 1, none⟩ = some (.slice ad4 gi.length cap4) := by rw [hW4]; simp
  have hy : w4.heap.size < W4.heap.size := by rw [hW4]; simp
  have HW4 := hid hW4
  clear hW4 hb4 hit4 HB4
  go_wp2_with fail
  rw [← HW4.out]
  refine (HFr.out _).mono ?_
  rintro e w5 ⟨hb5, ad5, cap5, rfl, hit5⟩
  have z0 := (hb5.cell (p := ⟨w4.heap.size, 0, none⟩) hy).trans y0
  have z1 := (hb5.cell (p := ⟨w4.heap.size, 1, none⟩) hy).trans y1
  have hy5 : w4.heap.size < w5.heap.size := Nat.lt_of_lt_of_le hy hb5.size
  obtain ⟨W5, hW5⟩ : ∃ W5 : World, W5 = w5.alloc (.cells #[.string gn, .slice ad5 gi.length cap5] 24) := ⟨_, rfl⟩
  have hb5' : Below w5.heap.size w5 W5 := by rw [hW5]; exact (Below.refl _ _).alloc (Nat.le_refl _) _
  have HB5 := hid (HC4.out.trans ((hb5.trans (hb5'.mono hb5.size)).mono HC4.out.size))
  have HI5 := hid (HI4.out.later (hb5.trans (hb5'.mono hb5.size)))
  have HJ5 := hid (hit5.later hb5')
  have v0 := (hb5'.cell (p := ⟨w4.heap.size, 0, none⟩) hy5).trans z0
  have v1 := (hb5'.cell (p := ⟨w4.heap.size, 1, none⟩) hy5).trans z1
  have u0 : W5.cell? ⟨w5.heap.size, 0, none⟩ = some (.string gn) := by rw [hW5]; simp
  have u1 : W5.cell? ⟨w5.heap.size, 1, none⟩ = some (.slice ad5 gi.length cap5) := by rw [hW5]; simp
  have hq5 : w5.heap.size < W5.heap.size := by rw [hW5]; simp
  have hq4 : w4.heap.size < W5.heap.size := by omega
  have HW5 := hid hW5
  clear hW5 hb5 hb5' hit5 y0 y1 z0 z1 hy HC4 HI4
  go_wp2_with fail
  rw [← HW5.out]
  go_wp2_with (first
    | (go_at_call 9; refine (HBg.out _).mono ?_; rintro e w6 ⟨rfl, hb6⟩; have t0 := (hb6.cell (p := ⟨w4.heap.size, 0, none⟩) hq4).trans v0; have t1 := (hb6.cell (p := ⟨w4.heap.size, 1, none⟩) hq4).trans v1; have s0 := (hb6.cell (p := ⟨w5.heap.size, 0, none⟩) hq5).trans u0; have s1 := (hb6.cell (p := ⟨w5.heap.size, 1, none⟩) hq5).trans u1; have HB7 := hid (HB5.out.trans (hb6.mono HB5.out.size)); have HI6 := hid (HI5.out.later hb6); have HJ6 := hid (HJ5.out.later hb6); clear hb6)
    | (go_at_call 10; refine (HS.out _ _ _ _ _ HI6.out HJ6.out).mono ?_; rintro e w7 ⟨rfl, hb7⟩; have HB6 := hid (HB7.out.trans (hb7.mono HB7.out.size)); clear hb7))
  go_ret
  exact ⟨rfl, HB6.out⟩

set_option maxHeartbeats 1600000 in
theorem writes_ok1 (nm : ByteArray) (its : List It) (a : Option Addr) (cap : Nat) (c : Int) (hc : ¬ c = 0) (T : ByteArray) (hT : ¬ 32768 < T.size) (gn : ByteArray) (gi : List It) (w : World)
    (HW : Hid (∀ W, Below w.heap.size w W → WrSays nm a its.length cap ⟨#[]⟩ c W))
    (HK : Hid (∀ W, Below w.heap.size w W → CkSays nm a its.length cap c W))
    (HR : Hid (∀ W, RdSays T gn gi 0 W))
    (HFr : Hid (∀ W, FrSays T gn gi true W))
    (HS : Hid (∀ W, SmSays gn gi W)) :
    Calls Try.prog 3 #[.agg #[.string nm, .slice a its.length cap], .string T] w fun e w' => e = .returned (.bool true) ∧ Below w.heap.size w w' := by
  have HBg : Hid (∀ W, Calls Try.prog 9 #[] W fun e w' => e = .returned (.bool true) ∧ Below W.heap.size W w') := faceBegun_any
  obtain ⟨W0, hW0⟩ : ∃ W0 : World, W0 = w.alloc (.cells #[.string nm, .slice a its.length cap] 24) := ⟨_, rfl⟩
  have hb0 : Below w.heap.size w W0 := by rw [hW0]; exact (Below.refl _ _).alloc (Nat.le_refl _) _
  have x0 : W0.cell? ⟨w.heap.size, 0, none⟩ = some (.string nm) := by rw [hW0]; simp
  have x1 : W0.cell? ⟨w.heap.size, 1, none⟩ = some (.slice a its.length cap) := by rw [hW0]; simp
  have hz0 : w.heap.size < W0.heap.size := by rw [hW0]; simp
  have HB0 := hid hb0
  have HW0 := hid hW0
  clear hb0 hW0
  go_enter Try.func3, Try.ntmps3
  go_wp2_with fail
  rw [← HW0.out]
  go_wp2_with fail
  refine (HW.out _ HB0.out).mono ?_
  rintro e w1 ⟨rfl, hb1⟩
  replace x0 : w1.cell? ⟨w.heap.size, 0, none⟩ = some (.string nm) := (hb1.cell (p := ⟨w.heap.size, 0, none⟩) hz0).trans x0
  have x1 : w1.cell? ⟨w.heap.size, 1, none⟩ = some (.slice a its.length cap) := (hb1.cell (p := ⟨w.heap.size, 1, none⟩) hz0).trans x1
  have hz1 : w.heap.size < w1.heap.size := Nat.lt_of_lt_of_le hz0 hb1.size
  have HB1 := hid (HB0.out.trans (hb1.mono HB0.out.size))
  clear hb1 hz0 HB0
  go_wp2_with fail
  refine (HK.out _ HB1.out).mono ?_
  rintro e w2 ⟨rfl, hb2⟩
  have x0 : w2.cell? ⟨w.heap.size, 0, none⟩ = some (.string nm) := (hb2.cell (p := ⟨w.heap.size, 0, none⟩) hz1).trans x0
  have x1 : w2.cell? ⟨w.heap.size, 1, none⟩ = some (.slice a its.length cap) := (hb2.cell (p := ⟨w.heap.size, 1, none⟩) hz1).trans x1
  have hz2 : w.heap.size < w2.heap.size := Nat.lt_of_lt_of_le hz1 hb2.size
  have HB2 := hid (HB1.out.trans (hb2.mono HB1.out.size))
  clear hb2 hz1 HB1
  go_wp2_with fail
  clear x0 x1
  refine (HR.out _).mono ?_
  rintro e w4 ⟨hb4, ad4, cap4, rfl, hit4⟩
  have HB4 := hid (HB2.out.trans (hb4.mono HB2.out.size))
  clear hz2
  obtain ⟨W4, hW4⟩ : ∃ W4 : World, W4 = w4.alloc (.cells #[.string gn, .slice ad4 gi.length cap4] 24) := ⟨_, rfl⟩
  have HI4 : Hid (ItemsAt W4 ad4 gi) := by rw [hW4]; exact hit4.later ((Below.refl _ _).alloc (Nat.le_refl _) _)
  have HC4 : Hid (Below w.heap.size w W4) := by rw [hW4]; exact HB4.out.alloc HB4.out.size _
  have y0 : W4.cell? ⟨w4.heap.size, 0, none⟩ = some (.string gn) := by rw [hW4]; simp
  have y1 : W4.cell? ⟨w4.heap.size, 1, none⟩ = some (.slice ad4 gi.length cap4) := by rw [hW4]; simp
  have hy : w4.heap.size < W4.heap.size := by rw [hW4]; simp
  have HW4 := hid hW4
  clear hW4 hb4 hit4 HB4
  go_wp2_with fail
  rw [← HW4.out]
  refine (HFr.out _).mono ?_
  rintro e w5 ⟨hb5, ad5, cap5, rfl, hit5⟩
  have z0 := (hb5.cell (p := ⟨w4.heap.size, 0, none⟩) hy).trans y0
  have z1 := (hb5.cell (p := ⟨w4.heap.size, 1, none⟩) hy).trans y1
  have hy5 : w4.heap.size < w5.heap.size := Nat.lt_of_lt_of_le hy hb5.size
  obtain ⟨W5, hW5⟩ : ∃ W5 : World, W5 = w5.alloc (.cells #[.string gn, .slice ad5 gi.length cap5] 24) := ⟨_, rfl⟩
  have hb5' : Below w5.heap.size w5 W5 := by rw [hW5]; exact (Below.refl _ _).alloc (Nat.le_refl _) _
  have HB5 := hid (HC4.out.trans ((hb5.trans (hb5'.mono hb5.size)).mono HC4.out.size))
  have HI5 := hid (HI4.out.later (hb5.trans (hb5'.mono hb5.size)))
  have HJ5 := hid (hit5.later hb5')
  have v0 := (hb5'.cell (p := ⟨w4.heap.size, 0, none⟩) hy5).trans z0
  have v1 := (hb5'.cell (p := ⟨w4.heap.size, 1, none⟩) hy5).trans z1
  have u0 : W5.cell? ⟨w5.heap.size, 0, none⟩ = some (.string gn) := by rw [hW5]; simp
  have u1 : W5.cell? ⟨w5.heap.size, 1, none⟩ = some (.slice ad5 gi.length cap5) := by rw [hW5]; simp
  have hq5 : w5.heap.size < W5.heap.size := by rw [hW5]; simp
  have hq4 : w4.heap.size < W5.heap.size := by omega
  have HW5 := hid hW5
  clear hW5 hb5 hb5' hit5 y0 y1 z0 z1 hy HC4 HI4
  go_wp2_with fail
  rw [← HW5.out]
  go_wp2_with (first
    | (go_at_call 9; refine (HBg.out _).mono ?_; rintro e w6 ⟨rfl, hb6⟩; have t0 := (hb6.cell (p := ⟨w4.heap.size, 0, none⟩) hq4).trans v0; have t1 := (hb6.cell (p := ⟨w4.heap.size, 1, none⟩) hq4).trans v1; have s0 := (hb6.cell (p := ⟨w5.heap.size, 0, none⟩) hq5).trans u0; have s1 := (hb6.cell (p := ⟨w5.heap.size, 1, none⟩) hq5).trans u1; have HB7 := hid (HB5.out.trans (hb6.mono HB5.out.size)); have HI6 := hid (HI5.out.later hb6); have HJ6 := hid (HJ5.out.later hb6); clear hb6)
    | (go_at_call 10; refine (HS.out _ _ _ _ _ HI6.out HJ6.out).mono ?_; rintro e w7 ⟨rfl, hb7⟩; have HB6 := hid (HB7.out.trans (hb7.mono HB7.out.size)); clear hb7))
  go_ret
  exact ⟨rfl, HB6.out⟩

set_option maxHeartbeats 1600000 in
theorem writes_no0 (nm : ByteArray) (its : List It) (a : Option Addr) (cap : Nat) (S : ByteArray) (T : ByteArray) (hT : ¬ 32768 < T.size) (gn : ByteArray) (gi : List It) (w : World)
    (HW : Hid (∀ W, Below w.heap.size w W → WrSays nm a its.length cap S 0 W))
    (HK : Hid (∀ W, Below w.heap.size w W → CkSays nm a its.length cap 0 W))
    (HF : Hid (∀ W, Below w.heap.size w W → FbSays nm a its.length cap S W))
    (HR : Hid (∀ W, RdSays T gn gi 1 W))
    (HFr : Hid (∀ W, FrSays T gn gi false W))
    (HS : Hid (∀ W, SmSays gn gi W)) :
    Calls Try.prog 3 #[.agg #[.string nm, .slice a its.length cap], .string T] w fun e w' => e = .returned (.bool true) ∧ Below w.heap.size w w' := by
  have HBg : Hid (∀ W, Calls Try.prog 9 #[] W fun e w' => e = .returned (.bool true) ∧ Below W.heap.size W w') := faceBegun_any
  obtain ⟨W0, hW0⟩ : ∃ W0 : World, W0 = w.alloc (.cells #[.string nm, .slice a its.length cap] 24) := ⟨_, rfl⟩
  have hb0 : Below w.heap.size w W0 := by rw [hW0]; exact (Below.refl _ _).alloc (Nat.le_refl _) _
  have x0 : W0.cell? ⟨w.heap.size, 0, none⟩ = some (.string nm) := by rw [hW0]; simp
  have x1 : W0.cell? ⟨w.heap.size, 1, none⟩ = some (.slice a its.length cap) := by rw [hW0]; simp
  have hz0 : w.heap.size < W0.heap.size := by rw [hW0]; simp
  have HB0 := hid hb0
  have HW0 := hid hW0
  clear hb0 hW0
  go_enter Try.func3, Try.ntmps3
  go_wp2_with fail
  rw [← HW0.out]
  go_wp2_with fail
  refine (HW.out _ HB0.out).mono ?_
  rintro e w1 ⟨rfl, hb1⟩
  replace x0 : w1.cell? ⟨w.heap.size, 0, none⟩ = some (.string nm) := (hb1.cell (p := ⟨w.heap.size, 0, none⟩) hz0).trans x0
  have x1 : w1.cell? ⟨w.heap.size, 1, none⟩ = some (.slice a its.length cap) := (hb1.cell (p := ⟨w.heap.size, 1, none⟩) hz0).trans x1
  have hz1 : w.heap.size < w1.heap.size := Nat.lt_of_lt_of_le hz0 hb1.size
  have HB1 := hid (HB0.out.trans (hb1.mono HB0.out.size))
  clear hb1 hz0 HB0
  go_wp2_with fail
  refine (HK.out _ HB1.out).mono ?_
  rintro e w2 ⟨rfl, hb2⟩
  have x0 : w2.cell? ⟨w.heap.size, 0, none⟩ = some (.string nm) := (hb2.cell (p := ⟨w.heap.size, 0, none⟩) hz1).trans x0
  have x1 : w2.cell? ⟨w.heap.size, 1, none⟩ = some (.slice a its.length cap) := (hb2.cell (p := ⟨w.heap.size, 1, none⟩) hz1).trans x1
  have hz2 : w.heap.size < w2.heap.size := Nat.lt_of_lt_of_le hz1 hb2.size
  have HB2 := hid (HB1.out.trans (hb2.mono HB1.out.size))
  clear hb2 hz1 HB1
  go_wp2_with fail
  refine (HF.out _ HB2.out).mono ?_
  rintro e w3 ⟨rfl, hb3⟩
  have x0 : w3.cell? ⟨w.heap.size, 0, none⟩ = some (.string nm) := (hb3.cell (p := ⟨w.heap.size, 0, none⟩) hz2).trans x0
  have x1 : w3.cell? ⟨w.heap.size, 1, none⟩ = some (.slice a its.length cap) := (hb3.cell (p := ⟨w.heap.size, 1, none⟩) hz2).trans x1
  have hz3 : w.heap.size < w3.heap.size := Nat.lt_of_lt_of_le hz2 hb3.size
  have HB3 := hid (HB2.out.trans (hb3.mono HB2.out.size))
  clear hb3 hz2 HB2
  go_wp2_with fail
  clear x0 x1
  refine (HR.out _).mono ?_
  rintro e w4 ⟨hb4, ad4, cap4, rfl, hit4⟩
  have HB4 := hid (HB3.out.trans (hb4.mono HB3.out.size))
  clear hz3
  obtain ⟨W4, hW4⟩ : ∃ W4 : World, W4 = w4.alloc (.cells #[.string gn, .slice ad4 gi.length cap4] 24) := ⟨_, rfl⟩
  have HI4 : Hid (ItemsAt W4 ad4 gi) := by rw [hW4]; exact hit4.later ((Below.refl _ _).alloc (Nat.le_refl _) _)
  have HC4 : Hid (Below w.heap.size w W4) := by rw [hW4]; exact HB4.out.alloc HB4.out.size _
  have y0 : W4.cell? ⟨w4.heap.size, 0, none⟩ = some (.string gn) := by rw [hW4]; simp
  have y1 : W4.cell? ⟨w4.heap.size, 1, none⟩ = some (.slice ad4 gi.length cap4) := by rw [hW4]; simp
  have hy : w4.heap.size < W4.heap.size := by rw [hW4]; simp
  have HW4 := hid hW4
  clear hW4 hb4 hit4 HB4
  go_wp2_with fail
  rw [← HW4.out]
  refine (HFr.out _).mono ?_
  rintro e w5 ⟨hb5, ad5, cap5, rfl, hit5⟩
  have z0 := (hb5.cell (p := ⟨w4.heap.size, 0, none⟩) hy).trans y0
  have z1 := (hb5.cell (p := ⟨w4.heap.size, 1, none⟩) hy).trans y1
  have hy5 : w4.heap.size < w5.heap.size := Nat.lt_of_lt_of_le hy hb5.size
  obtain ⟨W5, hW5⟩ : ∃ W5 : World, W5 = w5.alloc (.cells #[.string gn, .slice ad5 gi.length cap5] 24) := ⟨_, rfl⟩
  have hb5' : Below w5.heap.size w5 W5 := by rw [hW5]; exact (Below.refl _ _).alloc (Nat.le_refl _) _
  have HB5 := hid (HC4.out.trans ((hb5.trans (hb5'.mono hb5.size)).mono HC4.out.size))
  have HI5 := hid (HI4.out.later (hb5.trans (hb5'.mono hb5.size)))
  have HJ5 := hid (hit5.later hb5')
  have v0 := (hb5'.cell (p := ⟨w4.heap.size, 0, none⟩) hy5).trans z0
  have v1 := (hb5'.cell (p := ⟨w4.heap.size, 1, none⟩) hy5).trans z1
  have u0 : W5.cell? ⟨w5.heap.size, 0, none⟩ = some (.string gn) := by rw [hW5]; simp
  have u1 : W5.cell? ⟨w5.heap.size, 1, none⟩ = some (.slice ad5 gi.length cap5) := by rw [hW5]; simp
  have hq5 : w5.heap.size < W5.heap.size := by rw [hW5]; simp
  have hq4 : w4.heap.size < W5.heap.size := by omega
  have HW5 := hid hW5
  clear hW5 hb5 hb5' hit5 y0 y1 z0 z1 hy HC4 HI4
  go_wp2_with fail
  rw [← HW5.out]
  go_wp2_with (first
    | (go_at_call 9; refine (HBg.out _).mono ?_; rintro e w6 ⟨rfl, hb6⟩; have t0 := (hb6.cell (p := ⟨w4.heap.size, 0, none⟩) hq4).trans v0; have t1 := (hb6.cell (p := ⟨w4.heap.size, 1, none⟩) hq4).trans v1; have s0 := (hb6.cell (p := ⟨w5.heap.size, 0, none⟩) hq5).trans u0; have s1 := (hb6.cell (p := ⟨w5.heap.size, 1, none⟩) hq5).trans u1; have HB7 := hid (HB5.out.trans (hb6.mono HB5.out.size)); have HI6 := hid (HI5.out.later hb6); have HJ6 := hid (HJ5.out.later hb6); clear hb6)
    | (go_at_call 10; refine (HS.out _ _ _ _ _ HI6.out HJ6.out).mono ?_; rintro e w7 ⟨rfl, hb7⟩; have HB6 := hid (HB7.out.trans (hb7.mono HB7.out.size)); clear hb7))
  go_ret
  exact ⟨rfl, HB6.out⟩

set_option maxHeartbeats 1600000 in
theorem writes_no1 (nm : ByteArray) (its : List It) (a : Option Addr) (cap : Nat) (c : Int) (hc : ¬ c = 0) (T : ByteArray) (hT : ¬ 32768 < T.size) (gn : ByteArray) (gi : List It) (w : World)
    (HW : Hid (∀ W, Below w.heap.size w W → WrSays nm a its.length cap ⟨#[]⟩ c W))
    (HK : Hid (∀ W, Below w.heap.size w W → CkSays nm a its.length cap c W))
    (HR : Hid (∀ W, RdSays T gn gi 1 W))
    (HFr : Hid (∀ W, FrSays T gn gi false W))
    (HS : Hid (∀ W, SmSays gn gi W)) :
    Calls Try.prog 3 #[.agg #[.string nm, .slice a its.length cap], .string T] w fun e w' => e = .returned (.bool true) ∧ Below w.heap.size w w' := by
  have HBg : Hid (∀ W, Calls Try.prog 9 #[] W fun e w' => e = .returned (.bool true) ∧ Below W.heap.size W w') := faceBegun_any
  obtain ⟨W0, hW0⟩ : ∃ W0 : World, W0 = w.alloc (.cells #[.string nm, .slice a its.length cap] 24) := ⟨_, rfl⟩
  have hb0 : Below w.heap.size w W0 := by rw [hW0]; exact (Below.refl _ _).alloc (Nat.le_refl _) _
  have x0 : W0.cell? ⟨w.heap.size, 0, none⟩ = some (.string nm) := by rw [hW0]; simp
  have x1 : W0.cell? ⟨w.heap.size, 1, none⟩ = some (.slice a its.length cap) := by rw [hW0]; simp
  have hz0 : w.heap.size < W0.heap.size := by rw [hW0]; simp
  have HB0 := hid hb0
  have HW0 := hid hW0
  clear hb0 hW0
  go_enter Try.func3, Try.ntmps3
  go_wp2_with fail
  rw [← HW0.out]
  go_wp2_with fail
  refine (HW.out _ HB0.out).mono ?_
  rintro e w1 ⟨rfl, hb1⟩
  replace x0 : w1.cell? ⟨w.heap.size, 0, none⟩ = some (.string nm) := (hb1.cell (p := ⟨w.heap.size, 0, none⟩) hz0).trans x0
  have x1 : w1.cell? ⟨w.heap.size, 1, none⟩ = some (.slice a its.length cap) := (hb1.cell (p := ⟨w.heap.size, 1, none⟩) hz0).trans x1
  have hz1 : w.heap.size < w1.heap.size := Nat.lt_of_lt_of_le hz0 hb1.size
  have HB1 := hid (HB0.out.trans (hb1.mono HB0.out.size))
  clear hb1 hz0 HB0
  go_wp2_with fail
  refine (HK.out _ HB1.out).mono ?_
  rintro e w2 ⟨rfl, hb2⟩
  have x0 : w2.cell? ⟨w.heap.size, 0, none⟩ = some (.string nm) := (hb2.cell (p := ⟨w.heap.size, 0, none⟩) hz1).trans x0
  have x1 : w2.cell? ⟨w.heap.size, 1, none⟩ = some (.slice a its.length cap) := (hb2.cell (p := ⟨w.heap.size, 1, none⟩) hz1).trans x1
  have hz2 : w.heap.size < w2.heap.size := Nat.lt_of_lt_of_le hz1 hb2.size
  have HB2 := hid (HB1.out.trans (hb2.mono HB1.out.size))
  clear hb2 hz1 HB1
  go_wp2_with fail
  clear x0 x1
  refine (HR.out _).mono ?_
  rintro e w4 ⟨hb4, ad4, cap4, rfl, hit4⟩
  have HB4 := hid (HB2.out.trans (hb4.mono HB2.out.size))
  clear hz2
  obtain ⟨W4, hW4⟩ : ∃ W4 : World, W4 = w4.alloc (.cells #[.string gn, .slice ad4 gi.length cap4] 24) := ⟨_, rfl⟩
  have HI4 : Hid (ItemsAt W4 ad4 gi) := by rw [hW4]; exact hit4.later ((Below.refl _ _).alloc (Nat.le_refl _) _)
  have HC4 : Hid (Below w.heap.size w W4) := by rw [hW4]; exact HB4.out.alloc HB4.out.size _
  have y0 : W4.cell? ⟨w4.heap.size, 0, none⟩ = some (.string gn) := by rw [hW4]; simp
  have y1 : W4.cell? ⟨w4.heap.size, 1, none⟩ = some (.slice ad4 gi.length cap4) := by rw [hW4]; simp
  have hy : w4.heap.size < W4.heap.size := by rw [hW4]; simp
  have HW4 := hid hW4
  clear hW4 hb4 hit4 HB4
  go_wp2_with fail
  rw [← HW4.out]
  refine (HFr.out _).mono ?_
  rintro e w5 ⟨hb5, ad5, cap5, rfl, hit5⟩
  have z0 := (hb5.cell (p := ⟨w4.heap.size, 0, none⟩) hy).trans y0
  have z1 := (hb5.cell (p := ⟨w4.heap.size, 1, none⟩) hy).trans y1
  have hy5 : w4.heap.size < w5.heap.size := Nat.lt_of_lt_of_le hy hb5.size
  obtain ⟨W5, hW5⟩ : ∃ W5 : World, W5 = w5.alloc (.cells #[.string gn, .slice ad5 gi.length cap5] 24) := ⟨_, rfl⟩
  have hb5' : Below w5.heap.size w5 W5 := by rw [hW5]; exact (Below.refl _ _).alloc (Nat.le_refl _) _
  have HB5 := hid (HC4.out.trans ((hb5.trans (hb5'.mono hb5.size)).mono HC4.out.size))
  have HI5 := hid (HI4.out.later (hb5.trans (hb5'.mono hb5.size)))
  have HJ5 := hid (hit5.later hb5')
  have v0 := (hb5'.cell (p := ⟨w4.heap.size, 0, none⟩) hy5).trans z0
  have v1 := (hb5'.cell (p := ⟨w4.heap.size, 1, none⟩) hy5).trans z1
  have u0 : W5.cell? ⟨w5.heap.size, 0, none⟩ = some (.string gn) := by rw [hW5]; simp
  have u1 : W5.cell? ⟨w5.heap.size, 1, none⟩ = some (.slice ad5 gi.length cap5) := by rw [hW5]; simp
  have hq5 : w5.heap.size < W5.heap.size := by rw [hW5]; simp
  have hq4 : w4.heap.size < W5.heap.size := by omega
  have HW5 := hid hW5
  clear hW5 hb5 hb5' hit5 y0 y1 z0 z1 hy HC4 HI4
  go_wp2_with fail
  rw [← HW5.out]
  go_wp2_with (first
    | (go_at_call 9; refine (HBg.out _).mono ?_; rintro e w6 ⟨rfl, hb6⟩; have t0 := (hb6.cell (p := ⟨w4.heap.size, 0, none⟩) hq4).trans v0; have t1 := (hb6.cell (p := ⟨w4.heap.size, 1, none⟩) hq4).trans v1; have s0 := (hb6.cell (p := ⟨w5.heap.size, 0, none⟩) hq5).trans u0; have s1 := (hb6.cell (p := ⟨w5.heap.size, 1, none⟩) hq5).trans u1; have HB7 := hid (HB5.out.trans (hb6.mono HB5.out.size)); have HI6 := hid (HI5.out.later hb6); have HJ6 := hid (HJ5.out.later hb6); clear hb6)
    | (go_at_call 10; refine (HS.out _ _ _ _ _ HI6.out HJ6.out).mono ?_; rintro e w7 ⟨rfl, hb7⟩; have HB6 := hid (HB7.out.trans (hb7.mono HB7.out.size)); clear hb7))
  go_ret
  exact ⟨rfl, HB6.out⟩

end Go.Proofs.Ytidhbgidkgopfaa
