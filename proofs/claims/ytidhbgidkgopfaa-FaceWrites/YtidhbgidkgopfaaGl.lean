/-
  FaceBack, as a contract: whatever face and text are handed in, it answers true.
-/
import Derived.Test.YtidhbgidkgopfaaGk
namespace Go.Proofs.Ytidhbgidkgopfaa
open Go.RowKit Go.Shelf
set_option maxRecDepth 100000

/- what a call of Write, of Read, of SameFaces answers -/
def WrSays (nm : ByteArray) (a : Option Addr) (n cap : Nat) (S : ByteArray) (c : Int) (W : World) : Prop :=
  Calls Try.prog 5 #[.agg #[.string nm, .slice a n cap]] W fun e w' => e = .returned (.tuple #[.string S, .int .i64 c]) ∧ Below W.heap.size W w'
def RdSays (T : ByteArray) (nm : ByteArray) (its : List It) (r : Int) (W : World) : Prop :=
  Calls Try.prog 8 #[.string T] W fun e w' => Below W.heap.size W w' ∧ ∃ ad cap, e = .returned (.tuple #[.agg #[.string nm, .slice ad its.length cap], .int .i64 r]) ∧ ItemsAt w' ad its

set_option maxHeartbeats 1600000 in
theorem back_of (nm : ByteArray) (its : List It) (a : Option Addr) (cap : Nat) (S T : ByteArray) (c r : Int) (gn : ByteArray) (gi : List It) (w : World)
    (hT : Hid (ItemsAt w a its))
    (HW : Hid (∀ W, Below w.heap.size w W → WrSays nm a its.length cap S c W))
    (HR : Hid (c = 0 → ∀ W, RdSays S nm its 0 W))
    (HS : Hid (c = 0 → ∀ W ad cap', ItemsAt W ad its → ItemsAt W a its → Calls Try.prog 10 #[.agg #[.string nm, .slice ad its.length cap'], .agg #[.string nm, .slice a its.length cap]] W fun e w' => e = .returned (.bool true) ∧ Below W.heap.size W w'))
    (HR2 : Hid (∀ W, RdSays T gn gi r W))
    (HW2 : Hid (r = 0 → ∀ W ad cap', ItemsAt W ad gi → WrSays gn ad gi.length cap' T 0 W)) :
    Calls Try.prog 4 #[.agg #[.string nm, .slice a its.length cap], .string T] w fun e w' => e = .returned (.bool true) ∧ Below w.heap.size w w' := by
  have HBg : Hid (∀ W, Calls Try.prog 9 #[] W fun e w' => e = .returned (.bool true) ∧ Below W.heap.size W w') := faceBegun_any
  obtain ⟨W0, hW0⟩ : ∃ W0 : World, W0 = w.alloc (.cells #[.string nm, .slice a its.length cap] 24) := ⟨_, rfl⟩
  have hb0 : Below w.heap.size w W0 := by rw [hW0]; exact (Below.refl _ _).alloc (Nat.le_refl _) _
  have x0 : W0.cell? ⟨w.heap.size, 0, none⟩ = some (.string nm) := by rw [hW0]; simp
  have x1 : W0.cell? ⟨w.heap.size, 1, none⟩ = some (.slice a its.length cap) := by rw [hW0]; simp
  have hz0 : w.heap.size < W0.heap.size := by rw [hW0]; simp
  have HB0 := hid hb0
  have HW0 := hid hW0
  clear hb0 hW0
  rcases (Decidable.em (c = 0)) with hc | hc <;> rcases (Decidable.em (r = 0)) with hr | hr
  · subst hr
    replace HW2 := hid (HW2.out rfl)
    subst hc
    replace HR := hid (HR.out rfl)
    replace HS := hid (HS.out rfl)
    go_enter Try.func4, Try.ntmps4
    go_wp2_with fail
    rw [← HW0.out]
    go_wp2_with fail
    refine (HW.out _ HB0.out).mono ?_
    rintro e w1 ⟨rfl, hb1⟩
    have y0 : w1.cell? ⟨w.heap.size, 0, none⟩ = some (.string nm) := (hb1.cell (p := ⟨w.heap.size, 0, none⟩) hz0).trans x0
    have y1 : w1.cell? ⟨w.heap.size, 1, none⟩ = some (.slice a its.length cap) := (hb1.cell (p := ⟨w.heap.size, 1, none⟩) hz0).trans x1
    have hz1 : w.heap.size < w1.heap.size := Nat.lt_of_lt_of_le hz0 hb1.size
    have HB1 := hid (HB0.out.trans (hb1.mono HB0.out.size))
    clear hb1 x0 x1 hz0 HB0 HW0
    go_wp2_with fail
    refine (HR.out _).mono ?_
    rintro e w2 ⟨hb2, ad, cap2, rfl, hit⟩
    have hz2 : w.heap.size < w2.heap.size := Nat.lt_of_lt_of_le hz1 hb2.size
    have z0 := (hb2.cell (p := ⟨w.heap.size, 0, none⟩) hz1).trans y0
    have z1 := (hb2.cell (p := ⟨w.heap.size, 1, none⟩) hz1).trans y1
    have HB2 := hid (HB1.out.trans (hb2.mono HB1.out.size))
    have HA2 := hid (hT.out.later HB2.out)
    have HI2 := hid hit
    clear hb2 y0 y1 HB1 hz1 hit
    have HN := hid (fun (o : Obj) => (Below.refl w2.heap.size w2).alloc (Nat.le_refl _) o)
    go_wp2_with (go_at_call 10; refine (HS.out _ _ _ (HI2.out.later (HN.out _)) (HA2.out.later (HN.out _))).mono ?_; rintro e w3 ⟨rfl, hb3⟩; have HB3 := hid (HB2.out.trans (((HN.out _).trans (hb3.mono (HN.out _).size)).mono HB2.out.size)); clear hb3)
    clear z0 z1 hz2 HN HA2 HI2 HB2 HR HS
    refine (HR2.out _).mono ?_
    rintro e w4 ⟨hb4, ad4, cap4, rfl, hit4⟩
    have HB4 := hid (HB3.out.trans (hb4.mono HB3.out.size))
    have HI4 := hid hit4
    clear hb4 hit4
    have HN4 := hid (fun (o : Obj) => (Below.refl w4.heap.size w4).alloc (Nat.le_refl _) o)
    go_wp2_with fail
    refine (HW2.out _ _ _ (HI4.out.later (HN4.out _))).mono ?_
    rintro e w5 ⟨rfl, hb5⟩
    have HB5 := hid (HB4.out.trans (((HN4.out _).trans (hb5.mono (HN4.out _).size)).mono HB4.out.size))
    clear hb5
    go_wp2_with (go_at_call 9; refine (HBg.out _).mono ?_; rintro e w6 ⟨rfl, hb6⟩; have HB6 := hid (HB5.out.trans (hb6.mono HB5.out.size)); clear hb6)
    go_ret
    exact ⟨rfl, HB6.out⟩
  · clear HW2
    subst hc
    replace HR := hid (HR.out rfl)
    replace HS := hid (HS.out rfl)
    go_enter Try.func4, Try.ntmps4
    go_wp2_with fail
    rw [← HW0.out]
    go_wp2_with fail
    refine (HW.out _ HB0.out).mono ?_
    rintro e w1 ⟨rfl, hb1⟩
    have y0 : w1.cell? ⟨w.heap.size, 0, none⟩ = some (.string nm) := (hb1.cell (p := ⟨w.heap.size, 0, none⟩) hz0).trans x0
    have y1 : w1.cell? ⟨w.heap.size, 1, none⟩ = some (.slice a its.length cap) := (hb1.cell (p := ⟨w.heap.size, 1, none⟩) hz0).trans x1
    have hz1 : w.heap.size < w1.heap.size := Nat.lt_of_lt_of_le hz0 hb1.size
    have HB1 := hid (HB0.out.trans (hb1.mono HB0.out.size))
    clear hb1 x0 x1 hz0 HB0 HW0
    go_wp2_with fail
    refine (HR.out _).mono ?_
    rintro e w2 ⟨hb2, ad, cap2, rfl, hit⟩
    have hz2 : w.heap.size < w2.heap.size := Nat.lt_of_lt_of_le hz1 hb2.size
    have z0 := (hb2.cell (p := ⟨w.heap.size, 0, none⟩) hz1).trans y0
    have z1 := (hb2.cell (p := ⟨w.heap.size, 1, none⟩) hz1).trans y1
    have HB2 := hid (HB1.out.trans (hb2.mono HB1.out.size))
    have HA2 := hid (hT.out.later HB2.out)
    have HI2 := hid hit
    clear hb2 y0 y1 HB1 hz1 hit
    have HN := hid (fun (o : Obj) => (Below.refl w2.heap.size w2).alloc (Nat.le_refl _) o)
    go_wp2_with (go_at_call 10; refine (HS.out _ _ _ (HI2.out.later (HN.out _)) (HA2.out.later (HN.out _))).mono ?_; rintro e w3 ⟨rfl, hb3⟩; have HB3 := hid (HB2.out.trans (((HN.out _).trans (hb3.mono (HN.out _).size)).mono HB2.out.size)); clear hb3)
    clear z0 z1 hz2 HN HA2 HI2 HB2 HR HS
    refine (HR2.out _).mono ?_
    rintro e w4 ⟨hb4, ad4, cap4, rfl, hit4⟩
    have HB4 := hid (HB3.out.trans (hb4.mono HB3.out.size))
    clear hb4 hit4
    have HN4 := hid (fun (o : Obj) => (Below.refl w4.heap.size w4).alloc (Nat.le_refl _) o)
    go_wp2_with (go_at_call 9; refine (HBg.out _).mono ?_; rintro e w6 ⟨rfl, hb6⟩; have HB6 := hid (HB4.out.trans (((HN4.out _).trans (hb6.mono (HN4.out _).size)).mono HB4.out.size)); clear hb6)
    go_ret
    exact ⟨rfl, HB6.out⟩
  · subst hr
    replace HW2 := hid (HW2.out rfl)
    clear HR HS
    go_enter Try.func4, Try.ntmps4
    go_wp2_with fail
    rw [← HW0.out]
    go_wp2_with fail
    refine (HW.out _ HB0.out).mono ?_
    rintro e w3 ⟨rfl, hb1⟩
    have HB3 := hid (HB0.out.trans (hb1.mono HB0.out.size))
    clear hb1 x0 x1 hz0 HB0 HW0
    go_wp2_with fail
    refine (HR2.out _).mono ?_
    rintro e w4 ⟨hb4, ad4, cap4, rfl, hit4⟩
    have HB4 := hid (HB3.out.trans (hb4.mono HB3.out.size))
    have HI4 := hid hit4
    clear hb4 hit4
    have HN4 := hid (fun (o : Obj) => (Below.refl w4.heap.size w4).alloc (Nat.le_refl _) o)
    go_wp2_with fail
    refine (HW2.out _ _ _ (HI4.out.later (HN4.out _))).mono ?_
    rintro e w5 ⟨rfl, hb5⟩
    have HB5 := hid (HB4.out.trans (((HN4.out _).trans (hb5.mono (HN4.out _).size)).mono HB4.out.size))
    clear hb5
    go_wp2_with (go_at_call 9; refine (HBg.out _).mono ?_; rintro e w6 ⟨rfl, hb6⟩; have HB6 := hid (HB5.out.trans (hb6.mono HB5.out.size)); clear hb6)
    go_ret
    exact ⟨rfl, HB6.out⟩
  · clear HW2
    clear HR HS
    go_enter Try.func4, Try.ntmps4
    go_wp2_with fail
    rw [← HW0.out]
    go_wp2_with fail
    refine (HW.out _ HB0.out).mono ?_
    rintro e w3 ⟨rfl, hb1⟩
    have HB3 := hid (HB0.out.trans (hb1.mono HB0.out.size))
    clear hb1 x0 x1 hz0 HB0 HW0
    go_wp2_with fail
    refine (HR2.out _).mono ?_
    rintro e w4 ⟨hb4, ad4, cap4, rfl, hit4⟩
    have HB4 := hid (HB3.out.trans (hb4.mono HB3.out.size))
    clear hb4 hit4
    have HN4 := hid (fun (o : Obj) => (Below.refl w4.heap.size w4).alloc (Nat.le_refl _) o)
    go_wp2_with (go_at_call 9; refine (HBg.out _).mono ?_; rintro e w6 ⟨rfl, hb6⟩; have HB6 := hid (HB4.out.trans (((HN4.out _).trans (hb6.mono (HN4.out _).size)).mono HB4.out.size)); clear hb6)
    go_ret
    exact ⟨rfl, HB6.out⟩

theorem FaceBack_c (f : Fc) (a : Option Addr) (cap : Nat) (l : List UInt8) (w : World) (hT : ItemsAt w a f.items) (hl : f.items.length ≤ 1000000000000000) (hs : f.name.size ≤ maxLen) (hf : AllFit f.items) (hL : l.length ≤ 1000000000000000) :
    Calls Try.prog 4 #[.agg #[.string f.name, .slice a f.items.length cap], .string (strOf l)] w fun e w' => e = .returned (.bool true) ∧ Below w.heap.size w w' :=
  back_of f.name f.items a cap (if chkF f = 0 then strOf (faceB f) else ⟨#[]⟩) (strOf l) (chkF f) (rdF l).2 (rdF l).1.name (rdF l).1.items w hT
    (fun W hb => Write_any f a cap W (hT.later hb) hl hs hf)
    (fun h W => by rw [if_pos h]; exact bg_read h W)
    (fun h W ad cap' h1 h2 => bg_same h W ad a cap' cap h1 h2)
    (fun W => Read_of l (rdF l) rfl hL W)
    (fun h W ad cap' h1 => by
      obtain ⟨h2, h3⟩ := rdF_back h
      have := bg_write h2 W ad cap' h1
      rw [h3] at this
      exact this)
    
end Go.Proofs.Ytidhbgidkgopfaa
