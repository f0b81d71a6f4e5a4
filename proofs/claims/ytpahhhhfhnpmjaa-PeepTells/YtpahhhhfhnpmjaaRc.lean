/-
  PeepSame, as a contract: whatever image, numbers and limits are handed in, it answers true.
-/
import Derived.Test.YtpahhhhfhnpmjaaRb
namespace Go.Proofs.Ytpahhhhfhnpmjaa
open Go.RowKit Go.Shelf
set_option maxRecDepth 100000

def RunSays (a ia : Option Addr) (n cap k ic : Nat) (d t s : Int) (r : Ans) (W : World) : Prop :=
  Calls Try.prog 13 #[.agg #[.slice a n cap, .int .i64 d], .slice ia k ic, .int .i64 t, .int .i64 s] W fun e w' =>
    ∃ oa oc da dc, e = .returned (.tuple #[.agg #[.int .i64 r.en, .slice oa r.out.length oc, .slice da r.data.length dc, .int .i64 r.ticks], .int .i64 r.steps, .int .i64 r.err]) ∧ NumsAt w' oa r.out ∧ NumsAt w' da r.data ∧ Below W.heap.size W w' ∧ r.out.length ≤ 200 ∧ r.data.length ≤ 512
def PeepSays (a : Option Addr) (n cap : Nat) (d : Int) (p : List Mc.Ins) (W : World) : Prop :=
  Calls Try.prog 6 #[.agg #[.slice a n cap, .int .i64 d]] W fun e w' => ∃ g gc, e = .returned (.tuple #[.agg #[.slice (some ⟨g, 0, none⟩) n gc, .int .i64 d], .int .i64 0]) ∧ ImgAt w' (some ⟨g, 0, none⟩) p ∧ Below W.heap.size W w'

set_option maxHeartbeats 1600000 in
theorem same_bad (a ia : Option Addr) (n cap k ic : Nat) (d t s c : Int) (w : World) (hc : ¬ c = 0)
    (HP : Hid (∀ W, Below w.heap.size w W → Calls Try.prog 6 #[.agg #[.slice a n cap, .int .i64 d]] W fun e w' => e = .returned (.tuple #[.agg #[.slice none 0 0, .int .i64 0], .int .i64 c]) ∧ Below W.heap.size W w')) :
    Calls Try.prog 4 #[.agg #[.slice a n cap, .int .i64 d], .slice ia k ic, .int .i64 t, .int .i64 s] w fun e w' => e = .returned (.bool true) ∧ Below w.heap.size w w' := by
  have HBg : Hid (∀ W, Calls Try.prog 10 #[] W fun e w' => e = .returned (.bool true) ∧ Below W.heap.size W w') := peepBegun_any
  have HN := hid (fun (o : Obj) => (Below.refl w.heap.size w).alloc (Nat.le_refl _) o)
  go_enter Try.func4, Try.ntmps4
  go_wp2_with fail
  refine (HP.out _ (HN.out _)).mono ?_
  rintro e w1 ⟨rfl, hb1⟩
  have HB1 : Hid (Below w.heap.size w w1) := (HN.out _).trans (hb1.mono (by simp))
  clear hb1
  have HN1 := hid (fun (o : Obj) => HB1.out.alloc HB1.out.size o)
  go_wp2_with (go_at_call 10; refine (HBg.out _).mono ?_; rintro e w2 ⟨rfl, hb2⟩; have HB2 := hid ((HN1.out _).trans (hb2.mono (HN1.out _).size)); clear hb2)
  go_ret
  exact ⟨rfl, HB2.out⟩

set_option maxHeartbeats 3200000 in
theorem same_err (a ia : Option Addr) (n cap k ic : Nat) (d t s ns : Int) (p : List Mc.Ins) (r1 r2 : Ans) (w : World) (her : r2.err = r1.err) (he : ¬ r1.err = 0)
    (HP : Hid (∀ W, Below w.heap.size w W → PeepSays a n cap d p W))
    (HFw : Hid (∀ W, Calls Try.prog 12 #[.int .i64 s] W fun e w' => e = .returned (.int .i64 ns) ∧ w' = W))
    (HR1 : Hid (∀ W, Below w.heap.size w W → RunSays a ia n cap k ic d t ns r1 W))
    (HR2 : Hid (∀ W g gc, Below w.heap.size w W → ImgAt W (some ⟨g, 0, none⟩) p → RunSays (some ⟨g, 0, none⟩) ia n gc k ic d t ns r2 W))
    (HCk : Hid (∀ W g gc, ImgAt W (some ⟨g, 0, none⟩) p → Calls Try.prog 14 #[.agg #[.slice (some ⟨g, 0, none⟩) n gc, .int .i64 d]] W fun e w' => e = .returned (.int .i64 0) ∧ Below W.heap.size W w')) :
    Calls Try.prog 4 #[.agg #[.slice a n cap, .int .i64 d], .slice ia k ic, .int .i64 t, .int .i64 s] w fun e w' => e = .returned (.bool true) ∧ Below w.heap.size w w' := by
  have HBg : Hid (∀ W, Calls Try.prog 10 #[] W fun e w' => e = .returned (.bool true) ∧ Below W.heap.size W w') := peepBegun_any
  obtain ⟨e1, o1, d1, t1, s1, er⟩ := r1
  obtain ⟨e2, o2, d2, t2, s2, er2⟩ := r2
  simp only at her he 
  subst her
  simp only [RunSays] at HR1 HR2
  simp only [PeepSays] at HP
  obtain ⟨W0, hW0⟩ : ∃ W0 : World, W0 = w.alloc (.cells #[.slice a n cap, .int .i64 d] 24) := ⟨_, rfl⟩
  have HB0 : Hid (Below w.heap.size w W0) := by rw [hW0]; exact (Below.refl _ _).alloc (Nat.le_refl _) _
  have x0 : W0.cell? ⟨w.heap.size, 0, none⟩ = some (.slice a n cap) := by rw [hW0]; simp
  have x1 : W0.cell? ⟨w.heap.size, 1, none⟩ = some (.int .i64 d) := by rw [hW0]; simp
  have hz0 : w.heap.size < W0.heap.size := by rw [hW0]; simp
  have HW0 := hid hW0
  clear hW0
  go_enter Try.func4, Try.ntmps4
  go_wp2_with fail
  rw [← HW0.out]
  refine (HP.out _ HB0.out).mono ?_
  rintro e w1 ⟨g, gc, rfl, hi1, hb1⟩
  obtain ⟨W1, hW1⟩ : ∃ W1 : World, W1 = w1.alloc (.cells #[.slice (some ⟨g, 0, none⟩) n gc, .int .i64 d] 24) := ⟨_, rfl⟩
  have hbb : Below w1.heap.size w1 W1 := by rw [hW1]; exact (Below.refl _ _).alloc (Nat.le_refl _) _
  have hb01 := hb1.trans (hbb.mono hb1.size)
  have HB1 := hid (HB0.out.trans (hb01.mono HB0.out.size))
  have HI1 := hid (hi1.later hbb)
  have y0 := (hb01.cell (p := ⟨w.heap.size, 0, none⟩) hz0).trans x0
  have y1 := (hb01.cell (p := ⟨w.heap.size, 1, none⟩) hz0).trans x1
  have p0 : W1.cell? ⟨w1.heap.size, 0, none⟩ = some (.slice (some ⟨g, 0, none⟩) n gc) := by rw [hW1]; simp
  have p1 : W1.cell? ⟨w1.heap.size, 1, none⟩ = some (.int .i64 d) := by rw [hW1]; simp
  have hzp : w1.heap.size < W1.heap.size := by rw [hW1]; simp
  have hzy : w.heap.size < W1.heap.size := Nat.lt_of_lt_of_le hz0 hb01.size
  have HW1 := hid hW1
  clear hW1 hbb hb01 hi1 hb1 x0 x1 hz0 HB0 HW0
  go_wp2_with fail
  rw [← HW1.out]
  refine (HFw.out _).mono ?_
  rintro e wq ⟨rfl, rfl⟩
  go_wp2_with fail
  refine (HR1.out _ HB1.out).mono ?_
  rintro e w2 ⟨oa, oc, da, dc, rfl, hno, hnd, hb2, hl1, hl2⟩
  have HLl := hid hl1
  have HLd := hid hl2
  clear hl1 hl2
  obtain ⟨W2, hW2⟩ : ∃ W2 : World, W2 = w2.alloc (.cells #[.int .i64 e1, .slice oa o1.length oc, .slice da d1.length dc, .int .i64 t1] 40) := ⟨_, rfl⟩
  have hbb : Below w2.heap.size w2 W2 := by rw [hW2]; exact (Below.refl _ _).alloc (Nat.le_refl _) _
  have hb12 := hb2.trans (hbb.mono hb2.size)
  have HB2 := hid (HB1.out.trans (hb12.mono HB1.out.size))
  have HI2 := hid (HI1.out.later hb12)
  have HO2 := hid (hno.later hbb)
  have HD2 := hid (hnd.later hbb)
  have HZ0 := hid ((hb12.cell (p := ⟨w.heap.size, 0, none⟩) hzy).trans y0)
  have HQ0 := hid ((hb12.cell (p := ⟨w1.heap.size, 0, none⟩) hzp).trans p0)
  have HQ1 := hid ((hb12.cell (p := ⟨w1.heap.size, 1, none⟩) hzp).trans p1)
  have q0 := (hb2.cell (p := ⟨w1.heap.size, 0, none⟩) hzp).trans p0
  have q1 := (hb2.cell (p := ⟨w1.heap.size, 1, none⟩) hzp).trans p1
  have hq2 : w1.heap.size < w2.heap.size := Nat.lt_of_lt_of_le hzp hb2.size
  have r0 : W2.cell? ⟨w2.heap.size, 0, none⟩ = some (.int .i64 e1) := by rw [hW2]; simp
  have r1 : W2.cell? ⟨w2.heap.size, 1, none⟩ = some (.slice oa o1.length oc) := by rw [hW2]; simp
  have r2 : W2.cell? ⟨w2.heap.size, 2, none⟩ = some (.slice da d1.length dc) := by rw [hW2]; simp
  have r3 : W2.cell? ⟨w2.heap.size, 3, none⟩ = some (.int .i64 t1) := by rw [hW2]; simp
  have hzr : w2.heap.size < W2.heap.size := by rw [hW2]; simp
  have hzq : w1.heap.size < W2.heap.size := Nat.lt_of_lt_of_le hzp hb12.size
  have hzz : w.heap.size < W2.heap.size := Nat.lt_of_lt_of_le hzy hb12.size
  have HW2 := hid hW2
  clear hW2 hbb hb12 hno hnd hb2 y0 y1 p0 p1 hzp hzy HB1 HI1 HW1
  go_wp2_with fail
  rw [← HW2.out]
  refine (HR2.out _ _ _ HB2.out HI2.out).mono ?_
  rintro e w3 ⟨ob, oc3, db, dc3, rfl, hno3, hnd3, hb3, -, -⟩
  obtain ⟨W3, hW3⟩ : ∃ W3 : World, W3 = w3.alloc (.cells #[.int .i64 e2, .slice ob o2.length oc3, .slice db d2.length dc3, .int .i64 t2] 40) := ⟨_, rfl⟩
  have hbb : Below w3.heap.size w3 W3 := by rw [hW3]; exact (Below.refl _ _).alloc (Nat.le_refl _) _
  have hb23 := hb3.trans (hbb.mono hb3.size)
  have HB3 := hid (HB2.out.trans (hb23.mono HB2.out.size))
  have HI3 := hid (HI2.out.later hb23)
  have HO3 := hid (HO2.out.later hb23)
  have HD3 := hid (HD2.out.later hb23)
  have HO3' := hid (hno3.later hbb)
  have HD3' := hid (hnd3.later hbb)
  have a0 := (hb23.cell (p := ⟨w.heap.size, 0, none⟩) hzz).trans HZ0.out
  have b0 := (hb23.cell (p := ⟨w1.heap.size, 0, none⟩) hzq).trans HQ0.out
  have n0 := (hb3.cell (p := ⟨w1.heap.size, 0, none⟩) hzq).trans HQ0.out
  have n1 := (hb3.cell (p := ⟨w1.heap.size, 1, none⟩) hzq).trans HQ1.out
  have hn3 : w1.heap.size < w3.heap.size := Nat.lt_of_lt_of_le hzq hb3.size
  have c0 := (hb23.cell (p := ⟨w2.heap.size, 0, none⟩) hzr).trans r0
  have c1 := (hb23.cell (p := ⟨w2.heap.size, 1, none⟩) hzr).trans r1
  have c2 := (hb23.cell (p := ⟨w2.heap.size, 2, none⟩) hzr).trans r2
  have c3 := (hb23.cell (p := ⟨w2.heap.size, 3, none⟩) hzr).trans r3
  have u0 : W3.cell? ⟨w3.heap.size, 0, none⟩ = some (.int .i64 e2) := by rw [hW3]; simp
  have u1 : W3.cell? ⟨w3.heap.size, 1, none⟩ = some (.slice ob o2.length oc3) := by rw [hW3]; simp
  have u2 : W3.cell? ⟨w3.heap.size, 2, none⟩ = some (.slice db d2.length dc3) := by rw [hW3]; simp
  have u3 : W3.cell? ⟨w3.heap.size, 3, none⟩ = some (.int .i64 t2) := by rw [hW3]; simp
  have hz3 : w3.heap.size < W3.heap.size := by rw [hW3]; simp
  have hz2 : w2.heap.size < W3.heap.size := Nat.lt_of_lt_of_le hzr hb23.size
  have hz1 : w1.heap.size < W3.heap.size := Nat.lt_of_lt_of_le hzq hb23.size
  have hzw : w.heap.size < W3.heap.size := Nat.lt_of_lt_of_le hzz hb23.size
  have HW3 := hid hW3
  clear hW3 hbb hb23 hno3 hnd3 hb3 q0 q1 hq2 HZ0 HQ0 HQ1 r0 r1 r2 r3 hzr hzq hzz HB2 HI2 HO2 HD2 HW2
  go_wp2_with fail
  rw [← HW3.out]
  refine (HCk.out _ _ _ HI3.out).mono ?_
  rintro e w4 ⟨rfl, hb4⟩
  have HB4 := hid (HB3.out.trans (hb4.mono HB3.out.size))
  have HO4 := hid (HO3.out.later hb4)
  have HD4 := hid (HD3.out.later hb4)
  have HO4' := hid (HO3'.out.later hb4)
  have HD4' := hid (HD3'.out.later hb4)
  have A0 := (hb4.cell (p := ⟨w.heap.size, 0, none⟩) hzw).trans a0
  have B0 := (hb4.cell (p := ⟨w1.heap.size, 0, none⟩) hz1).trans b0
  have C0 := (hb4.cell (p := ⟨w2.heap.size, 0, none⟩) hz2).trans c0
  have C1 := (hb4.cell (p := ⟨w2.heap.size, 1, none⟩) hz2).trans c1
  have C2 := (hb4.cell (p := ⟨w2.heap.size, 2, none⟩) hz2).trans c2
  have C3 := (hb4.cell (p := ⟨w2.heap.size, 3, none⟩) hz2).trans c3
  have U0 := (hb4.cell (p := ⟨w3.heap.size, 0, none⟩) hz3).trans u0
  have U1 := (hb4.cell (p := ⟨w3.heap.size, 1, none⟩) hz3).trans u1
  have U2 := (hb4.cell (p := ⟨w3.heap.size, 2, none⟩) hz3).trans u2
  have U3 := (hb4.cell (p := ⟨w3.heap.size, 3, none⟩) hz3).trans u3
  have hz24 : w2.heap.size < w4.heap.size := Nat.lt_of_lt_of_le hz2 hb4.size
  have hz34 : w3.heap.size < w4.heap.size := Nat.lt_of_lt_of_le hz3 hb4.size
  clear hb4 a0 b0 n0 n1 hn3 c0 c1 c2 c3 u0 u1 u2 u3 hz3 hz2 hz1 hzw HB3 HI3 HO3 HD3 HO3' HD3' HW3
  go_wp2_with (go_at_call 10; refine (HBg.out _).mono ?_; rintro e w5 ⟨rfl, hb5⟩; have HB5 := hid (HB4.out.trans (hb5.mono HB4.out.size)); clear hb5)
  go_ret
  exact ⟨rfl, HB5.out⟩

set_option maxHeartbeats 3200000 in
theorem same_six (a ia : Option Addr) (n cap k ic : Nat) (d t s ns : Int) (p : List Mc.Ins) (r1 r2 : Ans) (w : World) (her : r2.err = r1.err) (he : r1.err = 0) (hen : r1.en = 6)
    (HP : Hid (∀ W, Below w.heap.size w W → PeepSays a n cap d p W))
    (HFw : Hid (∀ W, Calls Try.prog 12 #[.int .i64 s] W fun e w' => e = .returned (.int .i64 ns) ∧ w' = W))
    (HR1 : Hid (∀ W, Below w.heap.size w W → RunSays a ia n cap k ic d t ns r1 W))
    (HR2 : Hid (∀ W g gc, Below w.heap.size w W → ImgAt W (some ⟨g, 0, none⟩) p → RunSays (some ⟨g, 0, none⟩) ia n gc k ic d t ns r2 W))
    (HCk : Hid (∀ W g gc, ImgAt W (some ⟨g, 0, none⟩) p → Calls Try.prog 14 #[.agg #[.slice (some ⟨g, 0, none⟩) n gc, .int .i64 d]] W fun e w' => e = .returned (.int .i64 0) ∧ Below W.heap.size W w')) :
    Calls Try.prog 4 #[.agg #[.slice a n cap, .int .i64 d], .slice ia k ic, .int .i64 t, .int .i64 s] w fun e w' => e = .returned (.bool true) ∧ Below w.heap.size w w' := by
  have HBg : Hid (∀ W, Calls Try.prog 10 #[] W fun e w' => e = .returned (.bool true) ∧ Below W.heap.size W w') := peepBegun_any
  obtain ⟨e1, o1, d1, t1, s1, er⟩ := r1
  obtain ⟨e2, o2, d2, t2, s2, er2⟩ := r2
  simp only at her he hen 
  subst her
  subst he
  subst hen
  simp only [RunSays] at HR1 HR2
  simp only [PeepSays] at HP
  obtain ⟨W0, hW0⟩ : ∃ W0 : World, W0 = w.alloc (.cells #[.slice a n cap, .int .i64 d] 24) := ⟨_, rfl⟩
  have HB0 : Hid (Below w.heap.size w W0) := by rw [hW0]; exact (Below.refl _ _).alloc (Nat.le_refl _) _
  have x0 : W0.cell? ⟨w.heap.size, 0, none⟩ = some (.slice a n cap) := by rw [hW0]; simp
  have x1 : W0.cell? ⟨w.heap.size, 1, none⟩ = some (.int .i64 d) := by rw [hW0]; simp
  have hz0 : w.heap.size < W0.heap.size := by rw [hW0]; simp
  have HW0 := hid hW0
  clear hW0
  go_enter Try.func4, Try.ntmps4
  go_wp2_with fail
  rw [← HW0.out]
  refine (HP.out _ HB0.out).mono ?_
  rintro e w1 ⟨g, gc, rfl, hi1, hb1⟩
  obtain ⟨W1, hW1⟩ : ∃ W1 : World, W1 = w1.alloc (.cells #[.slice (some ⟨g, 0, none⟩) n gc, .int .i64 d] 24) := ⟨_, rfl⟩
  have hbb : Below w1.heap.size w1 W1 := by rw [hW1]; exact (Below.refl _ _).alloc (Nat.le_refl _) _
  have hb01 := hb1.trans (hbb.mono hb1.size)
  have HB1 := hid (HB0.out.trans (hb01.mono HB0.out.size))
  have HI1 := hid (hi1.later hbb)
  have y0 := (hb01.cell (p := ⟨w.heap.size, 0, none⟩) hz0).trans x0
  have y1 := (hb01.cell (p := ⟨w.heap.size, 1, none⟩) hz0).trans x1
  have p0 : W1.cell? ⟨w1.heap.size, 0, none⟩ = some (.slice (some ⟨g, 0, none⟩) n gc) := by rw [hW1]; simp
  have p1 : W1.cell? ⟨w1.heap.size, 1, none⟩ = some (.int .i64 d) := by rw [hW1]; simp
  have hzp : w1.heap.size < W1.heap.size := by rw [hW1]; simp
  have hzy : w.heap.size < W1.heap.size := Nat.lt_of_lt_of_le hz0 hb01.size
  have HW1 := hid hW1
  clear hW1 hbb hb01 hi1 hb1 x0 x1 hz0 HB0 HW0
  go_wp2_with fail
  rw [← HW1.out]
  refine (HFw.out _).mono ?_
  rintro e wq ⟨rfl, rfl⟩
  go_wp2_with fail
  refine (HR1.out _ HB1.out).mono ?_
  rintro e w2 ⟨oa, oc, da, dc, rfl, hno, hnd, hb2, hl1, hl2⟩
  have HLl := hid hl1
  have HLd := hid hl2
  clear hl1 hl2
  obtain ⟨W2, hW2⟩ : ∃ W2 : World, W2 = w2.alloc (.cells #[.int .i64 6, .slice oa o1.length oc, .slice da d1.length dc, .int .i64 t1] 40) := ⟨_, rfl⟩
  have hbb : Below w2.heap.size w2 W2 := by rw [hW2]; exact (Below.refl _ _).alloc (Nat.le_refl _) _
  have hb12 := hb2.trans (hbb.mono hb2.size)
  have HB2 := hid (HB1.out.trans (hb12.mono HB1.out.size))
  have HI2 := hid (HI1.out.later hb12)
  have HO2 := hid (hno.later hbb)
  have HD2 := hid (hnd.later hbb)
  have HZ0 := hid ((hb12.cell (p := ⟨w.heap.size, 0, none⟩) hzy).trans y0)
  have HQ0 := hid ((hb12.cell (p := ⟨w1.heap.size, 0, none⟩) hzp).trans p0)
  have HQ1 := hid ((hb12.cell (p := ⟨w1.heap.size, 1, none⟩) hzp).trans p1)
  have q0 := (hb2.cell (p := ⟨w1.heap.size, 0, none⟩) hzp).trans p0
  have q1 := (hb2.cell (p := ⟨w1.heap.size, 1, none⟩) hzp).trans p1
  have hq2 : w1.heap.size < w2.heap.size := Nat.lt_of_lt_of_le hzp hb2.size
  have r0 : W2.cell? ⟨w2.heap.size, 0, none⟩ = some (.int .i64 6) := by rw [hW2]; simp
  have r1 : W2.cell? ⟨w2.heap.size, 1, none⟩ = some (.slice oa o1.length oc) := by rw [hW2]; simp
  have r2 : W2.cell? ⟨w2.heap.size, 2, none⟩ = some (.slice da d1.length dc) := by rw [hW2]; simp
  have r3 : W2.cell? ⟨w2.heap.size, 3, none⟩ = some (.int .i64 t1) := by rw [hW2]; simp
  have hzr : w2.heap.size < W2.heap.size := by rw [hW2]; simp
  have hzq : w1.heap.size < W2.heap.size := Nat.lt_of_lt_of_le hzp hb12.size
  have hzz : w.heap.size < W2.heap.size := Nat.lt_of_lt_of_le hzy hb12.size
  have HW2 := hid hW2
  clear hW2 hbb hb12 hno hnd hb2 y0 y1 p0 p1 hzp hzy HB1 HI1 HW1
  go_wp2_with fail
  rw [← HW2.out]
  refine (HR2.out _ _ _ HB2.out HI2.out).mono ?_
  rintro e w3 ⟨ob, oc3, db, dc3, rfl, hno3, hnd3, hb3, -, -⟩
  obtain ⟨W3, hW3⟩ : ∃ W3 : World, W3 = w3.alloc (.cells #[.int .i64 e2, .slice ob o2.length oc3, .slice db d2.length dc3, .int .i64 t2] 40) := ⟨_, rfl⟩
  have hbb : Below w3.heap.size w3 W3 := by rw [hW3]; exact (Below.refl _ _).alloc (Nat.le_refl _) _
  have hb23 := hb3.trans (hbb.mono hb3.size)
  have HB3 := hid (HB2.out.trans (hb23.mono HB2.out.size))
  have HI3 := hid (HI2.out.later hb23)
  have HO3 := hid (HO2.out.later hb23)
  have HD3 := hid (HD2.out.later hb23)
  have HO3' := hid (hno3.later hbb)
  have HD3' := hid (hnd3.later hbb)
  have a0 := (hb23.cell (p := ⟨w.heap.size, 0, none⟩) hzz).trans HZ0.out
  have b0 := (hb23.cell (p := ⟨w1.heap.size, 0, none⟩) hzq).trans HQ0.out
  have n0 := (hb3.cell (p := ⟨w1.heap.size, 0, none⟩) hzq).trans HQ0.out
  have n1 := (hb3.cell (p := ⟨w1.heap.size, 1, none⟩) hzq).trans HQ1.out
  have hn3 : w1.heap.size < w3.heap.size := Nat.lt_of_lt_of_le hzq hb3.size
  have c0 := (hb23.cell (p := ⟨w2.heap.size, 0, none⟩) hzr).trans r0
  have c1 := (hb23.cell (p := ⟨w2.heap.size, 1, none⟩) hzr).trans r1
  have c2 := (hb23.cell (p := ⟨w2.heap.size, 2, none⟩) hzr).trans r2
  have c3 := (hb23.cell (p := ⟨w2.heap.size, 3, none⟩) hzr).trans r3
  have u0 : W3.cell? ⟨w3.heap.size, 0, none⟩ = some (.int .i64 e2) := by rw [hW3]; simp
  have u1 : W3.cell? ⟨w3.heap.size, 1, none⟩ = some (.slice ob o2.length oc3) := by rw [hW3]; simp
  have u2 : W3.cell? ⟨w3.heap.size, 2, none⟩ = some (.slice db d2.length dc3) := by rw [hW3]; simp
  have u3 : W3.cell? ⟨w3.heap.size, 3, none⟩ = some (.int .i64 t2) := by rw [hW3]; simp
  have hz3 : w3.heap.size < W3.heap.size := by rw [hW3]; simp
  have hz2 : w2.heap.size < W3.heap.size := Nat.lt_of_lt_of_le hzr hb23.size
  have hz1 : w1.heap.size < W3.heap.size := Nat.lt_of_lt_of_le hzq hb23.size
  have hzw : w.heap.size < W3.heap.size := Nat.lt_of_lt_of_le hzz hb23.size
  have HW3 := hid hW3
  clear hW3 hbb hb23 hno3 hnd3 hb3 q0 q1 hq2 HZ0 HQ0 HQ1 r0 r1 r2 r3 hzr hzq hzz HB2 HI2 HO2 HD2 HW2
  go_wp2_with fail
  rw [← HW3.out]
  refine (HCk.out _ _ _ HI3.out).mono ?_
  rintro e w4 ⟨rfl, hb4⟩
  have HB4 := hid (HB3.out.trans (hb4.mono HB3.out.size))
  have HO4 := hid (HO3.out.later hb4)
  have HD4 := hid (HD3.out.later hb4)
  have HO4' := hid (HO3'.out.later hb4)
  have HD4' := hid (HD3'.out.later hb4)
  have A0 := (hb4.cell (p := ⟨w.heap.size, 0, none⟩) hzw).trans a0
  have B0 := (hb4.cell (p := ⟨w1.heap.size, 0, none⟩) hz1).trans b0
  have C0 := (hb4.cell (p := ⟨w2.heap.size, 0, none⟩) hz2).trans c0
  have C1 := (hb4.cell (p := ⟨w2.heap.size, 1, none⟩) hz2).trans c1
  have C2 := (hb4.cell (p := ⟨w2.heap.size, 2, none⟩) hz2).trans c2
  have C3 := (hb4.cell (p := ⟨w2.heap.size, 3, none⟩) hz2).trans c3
  have U0 := (hb4.cell (p := ⟨w3.heap.size, 0, none⟩) hz3).trans u0
  have U1 := (hb4.cell (p := ⟨w3.heap.size, 1, none⟩) hz3).trans u1
  have U2 := (hb4.cell (p := ⟨w3.heap.size, 2, none⟩) hz3).trans u2
  have U3 := (hb4.cell (p := ⟨w3.heap.size, 3, none⟩) hz3).trans u3
  have hz24 : w2.heap.size < w4.heap.size := Nat.lt_of_lt_of_le hz2 hb4.size
  have hz34 : w3.heap.size < w4.heap.size := Nat.lt_of_lt_of_le hz3 hb4.size
  clear hb4 a0 b0 n0 n1 hn3 c0 c1 c2 c3 u0 u1 u2 u3 hz3 hz2 hz1 hzw HB3 HI3 HO3 HD3 HO3' HD3' HW3
  go_wp2_with (go_at_call 10; refine (HBg.out _).mono ?_; rintro e w5 ⟨rfl, hb5⟩; have HB5 := hid (HB4.out.trans (hb5.mono HB4.out.size)); clear hb5)
  go_ret
  exact ⟨rfl, HB5.out⟩

set_option maxHeartbeats 3200000 in
theorem same_seven (a ia : Option Addr) (n cap k ic : Nat) (d t s ns : Int) (p : List Mc.Ins) (r1 r2 : Ans) (w : World) (her : r2.err = r1.err) (he : r1.err = 0) (hen : r1.en = 7)
    (HP : Hid (∀ W, Below w.heap.size w W → PeepSays a n cap d p W))
    (HFw : Hid (∀ W, Calls Try.prog 12 #[.int .i64 s] W fun e w' => e = .returned (.int .i64 ns) ∧ w' = W))
    (HR1 : Hid (∀ W, Below w.heap.size w W → RunSays a ia n cap k ic d t ns r1 W))
    (HR2 : Hid (∀ W g gc, Below w.heap.size w W → ImgAt W (some ⟨g, 0, none⟩) p → RunSays (some ⟨g, 0, none⟩) ia n gc k ic d t ns r2 W))
    (HCk : Hid (∀ W g gc, ImgAt W (some ⟨g, 0, none⟩) p → Calls Try.prog 14 #[.agg #[.slice (some ⟨g, 0, none⟩) n gc, .int .i64 d]] W fun e w' => e = .returned (.int .i64 0) ∧ Below W.heap.size W w')) :
    Calls Try.prog 4 #[.agg #[.slice a n cap, .int .i64 d], .slice ia k ic, .int .i64 t, .int .i64 s] w fun e w' => e = .returned (.bool true) ∧ Below w.heap.size w w' := by
  have HBg : Hid (∀ W, Calls Try.prog 10 #[] W fun e w' => e = .returned (.bool true) ∧ Below W.heap.size W w') := peepBegun_any
  obtain ⟨e1, o1, d1, t1, s1, er⟩ := r1
  obtain ⟨e2, o2, d2, t2, s2, er2⟩ := r2
  simp only at her he hen 
  subst her
  subst he
  subst hen
  simp only [RunSays] at HR1 HR2
  simp only [PeepSays] at HP
  obtain ⟨W0, hW0⟩ : ∃ W0 : World, W0 = w.alloc (.cells #[.slice a n cap, .int .i64 d] 24) := ⟨_, rfl⟩
  have HB0 : Hid (Below w.heap.size w W0) := by rw [hW0]; exact (Below.refl _ _).alloc (Nat.le_refl _) _
  have x0 : W0.cell? ⟨w.heap.size, 0, none⟩ = some (.slice a n cap) := by rw [hW0]; simp
  have x1 : W0.cell? ⟨w.heap.size, 1, none⟩ = some (.int .i64 d) := by rw [hW0]; simp
  have hz0 : w.heap.size < W0.heap.size := by rw [hW0]; simp
  have HW0 := hid hW0
  clear hW0
  go_enter Try.func4, Try.ntmps4
  go_wp2_with fail
  rw [← HW0.out]
  refine (HP.out _ HB0.out).mono ?_
  rintro e w1 ⟨g, gc, rfl, hi1, hb1⟩
  obtain ⟨W1, hW1⟩ : ∃ W1 : World, W1 = w1.alloc (.cells #[.slice (some ⟨g, 0, none⟩) n gc, .int .i64 d] 24) := ⟨_, rfl⟩
  have hbb : Below w1.heap.size w1 W1 := by rw [hW1]; exact (Below.refl _ _).alloc (Nat.le_refl _) _
  have hb01 := hb1.trans (hbb.mono hb1.size)
  have HB1 := hid (HB0.out.trans (hb01.mono HB0.out.size))
  have HI1 := hid (hi1.later hbb)
  have y0 := (hb01.cell (p := ⟨w.heap.size, 0, none⟩) hz0).trans x0
  have y1 := (hb01.cell (p := ⟨w.heap.size, 1, none⟩) hz0).trans x1
  have p0 : W1.cell? ⟨w1.heap.size, 0, none⟩ = some (.slice (some ⟨g, 0, none⟩) n gc) := by rw [hW1]; simp
  have p1 : W1.cell? ⟨w1.heap.size, 1, none⟩ = some (.int .i64 d) := by rw [hW1]; simp
  have hzp : w1.heap.size < W1.heap.size := by rw [hW1]; simp
  have hzy : w.heap.size < W1.heap.size := Nat.lt_of_lt_of_le hz0 hb01.size
  have HW1 := hid hW1
  clear hW1 hbb hb01 hi1 hb1 x0 x1 hz0 HB0 HW0
  go_wp2_with fail
  rw [← HW1.out]
  refine (HFw.out _).mono ?_
  rintro e wq ⟨rfl, rfl⟩
  go_wp2_with fail
  refine (HR1.out _ HB1.out).mono ?_
  rintro e w2 ⟨oa, oc, da, dc, rfl, hno, hnd, hb2, hl1, hl2⟩
  have HLl := hid hl1
  have HLd := hid hl2
  clear hl1 hl2
  obtain ⟨W2, hW2⟩ : ∃ W2 : World, W2 = w2.alloc (.cells #[.int .i64 7, .slice oa o1.length oc, .slice da d1.length dc, .int .i64 t1] 40) := ⟨_, rfl⟩
  have hbb : Below w2.heap.size w2 W2 := by rw [hW2]; exact (Below.refl _ _).alloc (Nat.le_refl _) _
  have hb12 := hb2.trans (hbb.mono hb2.size)
  have HB2 := hid (HB1.out.trans (hb12.mono HB1.out.size))
  have HI2 := hid (HI1.out.later hb12)
  have HO2 := hid (hno.later hbb)
  have HD2 := hid (hnd.later hbb)
  have HZ0 := hid ((hb12.cell (p := ⟨w.heap.size, 0, none⟩) hzy).trans y0)
  have HQ0 := hid ((hb12.cell (p := ⟨w1.heap.size, 0, none⟩) hzp).trans p0)
  have HQ1 := hid ((hb12.cell (p := ⟨w1.heap.size, 1, none⟩) hzp).trans p1)
  have q0 := (hb2.cell (p := ⟨w1.heap.size, 0, none⟩) hzp).trans p0
  have q1 := (hb2.cell (p := ⟨w1.heap.size, 1, none⟩) hzp).trans p1
  have hq2 : w1.heap.size < w2.heap.size := Nat.lt_of_lt_of_le hzp hb2.size
  have r0 : W2.cell? ⟨w2.heap.size, 0, none⟩ = some (.int .i64 7) := by rw [hW2]; simp
  have r1 : W2.cell? ⟨w2.heap.size, 1, none⟩ = some (.slice oa o1.length oc) := by rw [hW2]; simp
  have r2 : W2.cell? ⟨w2.heap.size, 2, none⟩ = some (.slice da d1.length dc) := by rw [hW2]; simp
  have r3 : W2.cell? ⟨w2.heap.size, 3, none⟩ = some (.int .i64 t1) := by rw [hW2]; simp
  have hzr : w2.heap.size < W2.heap.size := by rw [hW2]; simp
  have hzq : w1.heap.size < W2.heap.size := Nat.lt_of_lt_of_le hzp hb12.size
  have hzz : w.heap.size < W2.heap.size := Nat.lt_of_lt_of_le hzy hb12.size
  have HW2 := hid hW2
  clear hW2 hbb hb12 hno hnd hb2 y0 y1 p0 p1 hzp hzy HB1 HI1 HW1
  go_wp2_with fail
  rw [← HW2.out]
  refine (HR2.out _ _ _ HB2.out HI2.out).mono ?_
  rintro e w3 ⟨ob, oc3, db, dc3, rfl, hno3, hnd3, hb3, -, -⟩
  obtain ⟨W3, hW3⟩ : ∃ W3 : World, W3 = w3.alloc (.cells #[.int .i64 e2, .slice ob o2.length oc3, .slice db d2.length dc3, .int .i64 t2] 40) := ⟨_, rfl⟩
  have hbb : Below w3.heap.size w3 W3 := by rw [hW3]; exact (Below.refl _ _).alloc (Nat.le_refl _) _
  have hb23 := hb3.trans (hbb.mono hb3.size)
  have HB3 := hid (HB2.out.trans (hb23.mono HB2.out.size))
  have HI3 := hid (HI2.out.later hb23)
  have HO3 := hid (HO2.out.later hb23)
  have HD3 := hid (HD2.out.later hb23)
  have HO3' := hid (hno3.later hbb)
  have HD3' := hid (hnd3.later hbb)
  have a0 := (hb23.cell (p := ⟨w.heap.size, 0, none⟩) hzz).trans HZ0.out
  have b0 := (hb23.cell (p := ⟨w1.heap.size, 0, none⟩) hzq).trans HQ0.out
  have n0 := (hb3.cell (p := ⟨w1.heap.size, 0, none⟩) hzq).trans HQ0.out
  have n1 := (hb3.cell (p := ⟨w1.heap.size, 1, none⟩) hzq).trans HQ1.out
  have hn3 : w1.heap.size < w3.heap.size := Nat.lt_of_lt_of_le hzq hb3.size
  have c0 := (hb23.cell (p := ⟨w2.heap.size, 0, none⟩) hzr).trans r0
  have c1 := (hb23.cell (p := ⟨w2.heap.size, 1, none⟩) hzr).trans r1
  have c2 := (hb23.cell (p := ⟨w2.heap.size, 2, none⟩) hzr).trans r2
  have c3 := (hb23.cell (p := ⟨w2.heap.size, 3, none⟩) hzr).trans r3
  have u0 : W3.cell? ⟨w3.heap.size, 0, none⟩ = some (.int .i64 e2) := by rw [hW3]; simp
  have u1 : W3.cell? ⟨w3.heap.size, 1, none⟩ = some (.slice ob o2.length oc3) := by rw [hW3]; simp
  have u2 : W3.cell? ⟨w3.heap.size, 2, none⟩ = some (.slice db d2.length dc3) := by rw [hW3]; simp
  have u3 : W3.cell? ⟨w3.heap.size, 3, none⟩ = some (.int .i64 t2) := by rw [hW3]; simp
  have hz3 : w3.heap.size < W3.heap.size := by rw [hW3]; simp
  have hz2 : w2.heap.size < W3.heap.size := Nat.lt_of_lt_of_le hzr hb23.size
  have hz1 : w1.heap.size < W3.heap.size := Nat.lt_of_lt_of_le hzq hb23.size
  have hzw : w.heap.size < W3.heap.size := Nat.lt_of_lt_of_le hzz hb23.size
  have HW3 := hid hW3
  clear hW3 hbb hb23 hno3 hnd3 hb3 q0 q1 hq2 HZ0 HQ0 HQ1 r0 r1 r2 r3 hzr hzq hzz HB2 HI2 HO2 HD2 HW2
  go_wp2_with fail
  rw [← HW3.out]
  refine (HCk.out _ _ _ HI3.out).mono ?_
  rintro e w4 ⟨rfl, hb4⟩
  have HB4 := hid (HB3.out.trans (hb4.mono HB3.out.size))
  have HO4 := hid (HO3.out.later hb4)
  have HD4 := hid (HD3.out.later hb4)
  have HO4' := hid (HO3'.out.later hb4)
  have HD4' := hid (HD3'.out.later hb4)
  have A0 := (hb4.cell (p := ⟨w.heap.size, 0, none⟩) hzw).trans a0
  have B0 := (hb4.cell (p := ⟨w1.heap.size, 0, none⟩) hz1).trans b0
  have C0 := (hb4.cell (p := ⟨w2.heap.size, 0, none⟩) hz2).trans c0
  have C1 := (hb4.cell (p := ⟨w2.heap.size, 1, none⟩) hz2).trans c1
  have C2 := (hb4.cell (p := ⟨w2.heap.size, 2, none⟩) hz2).trans c2
  have C3 := (hb4.cell (p := ⟨w2.heap.size, 3, none⟩) hz2).trans c3
  have U0 := (hb4.cell (p := ⟨w3.heap.size, 0, none⟩) hz3).trans u0
  have U1 := (hb4.cell (p := ⟨w3.heap.size, 1, none⟩) hz3).trans u1
  have U2 := (hb4.cell (p := ⟨w3.heap.size, 2, none⟩) hz3).trans u2
  have U3 := (hb4.cell (p := ⟨w3.heap.size, 3, none⟩) hz3).trans u3
  have hz24 : w2.heap.size < w4.heap.size := Nat.lt_of_lt_of_le hz2 hb4.size
  have hz34 : w3.heap.size < w4.heap.size := Nat.lt_of_lt_of_le hz3 hb4.size
  clear hb4 a0 b0 n0 n1 hn3 c0 c1 c2 c3 u0 u1 u2 u3 hz3 hz2 hz1 hzw HB3 HI3 HO3 HD3 HO3' HD3' HW3
  go_wp2_with (go_at_call 10; refine (HBg.out _).mono ?_; rintro e w5 ⟨rfl, hb5⟩; have HB5 := hid (HB4.out.trans (hb5.mono HB4.out.size)); clear hb5)
  go_ret
  exact ⟨rfl, HB5.out⟩

set_option maxHeartbeats 3200000 in
theorem same_fin (a ia : Option Addr) (n cap k ic : Nat) (d t s ns : Int) (p : List Mc.Ins) (r1 r2 : Ans) (w : World) (her : r2.err = r1.err) (he : r1.err = 0) (h6 : ¬ r1.en = 6) (h7 : ¬ r1.en = 7) (hq1 : r2.en = r1.en) (hq2 : r2.out = r1.out) (hq3 : r2.data = r1.data) (hq4 : r2.ticks = r1.ticks) (hq5 : r2.steps ≤ r1.steps)
    (HP : Hid (∀ W, Below w.heap.size w W → PeepSays a n cap d p W))
    (HFw : Hid (∀ W, Calls Try.prog 12 #[.int .i64 s] W fun e w' => e = .returned (.int .i64 ns) ∧ w' = W))
    (HR1 : Hid (∀ W, Below w.heap.size w W → RunSays a ia n cap k ic d t ns r1 W))
    (HR2 : Hid (∀ W g gc, Below w.heap.size w W → ImgAt W (some ⟨g, 0, none⟩) p → RunSays (some ⟨g, 0, none⟩) ia n gc k ic d t ns r2 W))
    (HCk : Hid (∀ W g gc, ImgAt W (some ⟨g, 0, none⟩) p → Calls Try.prog 14 #[.agg #[.slice (some ⟨g, 0, none⟩) n gc, .int .i64 d]] W fun e w' => e = .returned (.int .i64 0) ∧ Below W.heap.size W w')) :
    Calls Try.prog 4 #[.agg #[.slice a n cap, .int .i64 d], .slice ia k ic, .int .i64 t, .int .i64 s] w fun e w' => e = .returned (.bool true) ∧ Below w.heap.size w w' := by
  have HBg : Hid (∀ W, Calls Try.prog 10 #[] W fun e w' => e = .returned (.bool true) ∧ Below W.heap.size W w') := peepBegun_any
  obtain ⟨e1, o1, d1, t1, s1, er⟩ := r1
  obtain ⟨e2, o2, d2, t2, s2, er2⟩ := r2
  simp only at her he h6 h7 hq1 hq2 hq3 hq4 hq5 
  subst her
  subst he
  subst hq1
  subst hq2
  subst hq3
  subst hq4
  have HSm : Hid (∀ W oa ob da db c1 c2 c3 c4, NumsAt W oa o2 → NumsAt W ob o2 → NumsAt W da d2 → NumsAt W db d2 → o2.length ≤ 200 → d2.length ≤ 512 → Calls Try.prog 15 #[.agg #[.int .i64 e2, .slice oa o2.length c1, .slice da d2.length c3, .int .i64 t2], .agg #[.int .i64 e2, .slice ob o2.length c2, .slice db d2.length c4, .int .i64 t2]] W fun e w' => e = .returned (.bool true) ∧ Below W.heap.size W w') := fun W oa ob da db c1 c2 c3 c4 h1 h2 h3 h4 l1 l2 => SameResults_same e2 t2 oa ob da db c1 c2 c3 c4 o2 d2 W h1 h2 h3 h4 (by omega) (by omega)
  simp only [RunSays] at HR1 HR2
  simp only [PeepSays] at HP
  obtain ⟨W0, hW0⟩ : ∃ W0 : World, W0 = w.alloc (.cells #[.slice a n cap, .int .i64 d] 24) := ⟨_, rfl⟩
  have HB0 : Hid (Below w.heap.size w W0) := by rw [hW0]; exact (Below.refl _ _).alloc (Nat.le_refl _) _
  have x0 : W0.cell? ⟨w.heap.size, 0, none⟩ = some (.slice a n cap) := by rw [hW0]; simp
  have x1 : W0.cell? ⟨w.heap.size, 1, none⟩ = some (.int .i64 d) := by rw [hW0]; simp
  have hz0 : w.heap.size < W0.heap.size := by rw [hW0]; simp
  have HW0 := hid hW0
  clear hW0
  go_enter Try.func4, Try.ntmps4
  go_wp2_with fail
  rw [← HW0.out]
  refine (HP.out _ HB0.out).mono ?_
  rintro e w1 ⟨g, gc, rfl, hi1, hb1⟩
  obtain ⟨W1, hW1⟩ : ∃ W1 : World, W1 = w1.alloc (.cells #[.slice (some ⟨g, 0, none⟩) n gc, .int .i64 d] 24) := ⟨_, rfl⟩
  have hbb : Below w1.heap.size w1 W1 := by rw [hW1]; exact (Below.refl _ _).alloc (Nat.le_refl _) _
  have hb01 := hb1.trans (hbb.mono hb1.size)
  have HB1 := hid (HB0.out.trans (hb01.mono HB0.out.size))
  have HI1 := hid (hi1.later hbb)
  have y0 := (hb01.cell (p := ⟨w.heap.size, 0, none⟩) hz0).trans x0
  have y1 := (hb01.cell (p := ⟨w.heap.size, 1, none⟩) hz0).trans x1
  have p0 : W1.cell? ⟨w1.heap.size, 0, none⟩ = some (.slice (some ⟨g, 0, none⟩) n gc) := by rw [hW1]; simp
  have p1 : W1.cell? ⟨w1.heap.size, 1, none⟩ = some (.int .i64 d) := by rw [hW1]; simp
  have hzp : w1.heap.size < W1.heap.size := by rw [hW1]; simp
  have hzy : w.heap.size < W1.heap.size := Nat.lt_of_lt_of_le hz0 hb01.size
  have HW1 := hid hW1
  clear hW1 hbb hb01 hi1 hb1 x0 x1 hz0 HB0 HW0
  go_wp2_with fail
  rw [← HW1.out]
  refine (HFw.out _).mono ?_
  rintro e wq ⟨rfl, rfl⟩
  go_wp2_with fail
  refine (HR1.out _ HB1.out).mono ?_
  rintro e w2 ⟨oa, oc, da, dc, rfl, hno, hnd, hb2, hl1, hl2⟩
  have HLl := hid hl1
  have HLd := hid hl2
  clear hl1 hl2
  obtain ⟨W2, hW2⟩ : ∃ W2 : World, W2 = w2.alloc (.cells #[.int .i64 e2, .slice oa o2.length oc, .slice da d2.length dc, .int .i64 t2] 40) := ⟨_, rfl⟩
  have hbb : Below w2.heap.size w2 W2 := by rw [hW2]; exact (Below.refl _ _).alloc (Nat.le_refl _) _
  have hb12 := hb2.trans (hbb.mono hb2.size)
  have HB2 := hid (HB1.out.trans (hb12.mono HB1.out.size))
  have HI2 := hid (HI1.out.later hb12)
  have HO2 := hid (hno.later hbb)
  have HD2 := hid (hnd.later hbb)
  have HZ0 := hid ((hb12.cell (p := ⟨w.heap.size, 0, none⟩) hzy).trans y0)
  have HQ0 := hid ((hb12.cell (p := ⟨w1.heap.size, 0, none⟩) hzp).trans p0)
  have HQ1 := hid ((hb12.cell (p := ⟨w1.heap.size, 1, none⟩) hzp).trans p1)
  have q0 := (hb2.cell (p := ⟨w1.heap.size, 0, none⟩) hzp).trans p0
  have q1 := (hb2.cell (p := ⟨w1.heap.size, 1, none⟩) hzp).trans p1
  have hq2 : w1.heap.size < w2.heap.size := Nat.lt_of_lt_of_le hzp hb2.size
  have r0 : W2.cell? ⟨w2.heap.size, 0, none⟩ = some (.int .i64 e2) := by rw [hW2]; simp
  have r1 : W2.cell? ⟨w2.heap.size, 1, none⟩ = some (.slice oa o2.length oc) := by rw [hW2]; simp
  have r2 : W2.cell? ⟨w2.heap.size, 2, none⟩ = some (.slice da d2.length dc) := by rw [hW2]; simp
  have r3 : W2.cell? ⟨w2.heap.size, 3, none⟩ = some (.int .i64 t2) := by rw [hW2]; simp
  have hzr : w2.heap.size < W2.heap.size := by rw [hW2]; simp
  have hzq : w1.heap.size < W2.heap.size := Nat.lt_of_lt_of_le hzp hb12.size
  have hzz : w.heap.size < W2.heap.size := Nat.lt_of_lt_of_le hzy hb12.size
  have HW2 := hid hW2
  clear hW2 hbb hb12 hno hnd hb2 y0 y1 p0 p1 hzp hzy HB1 HI1 HW1
  go_wp2_with fail
  rw [← HW2.out]
  refine (HR2.out _ _ _ HB2.out HI2.out).mono ?_
  rintro e w3 ⟨ob, oc3, db, dc3, rfl, hno3, hnd3, hb3, -, -⟩
  obtain ⟨W3, hW3⟩ : ∃ W3 : World, W3 = w3.alloc (.cells #[.int .i64 e2, .slice ob o2.length oc3, .slice db d2.length dc3, .int .i64 t2] 40) := ⟨_, rfl⟩
  have hbb : Below w3.heap.size w3 W3 := by rw [hW3]; exact (Below.refl _ _).alloc (Nat.le_refl _) _
  have hb23 := hb3.trans (hbb.mono hb3.size)
  have HB3 := hid (HB2.out.trans (hb23.mono HB2.out.size))
  have HI3 := hid (HI2.out.later hb23)
  have HO3 := hid (HO2.out.later hb23)
  have HD3 := hid (HD2.out.later hb23)
  have HO3' := hid (hno3.later hbb)
  have HD3' := hid (hnd3.later hbb)
  have a0 := (hb23.cell (p := ⟨w.heap.size, 0, none⟩) hzz).trans HZ0.out
  have b0 := (hb23.cell (p := ⟨w1.heap.size, 0, none⟩) hzq).trans HQ0.out
  have n0 := (hb3.cell (p := ⟨w1.heap.size, 0, none⟩) hzq).trans HQ0.out
  have n1 := (hb3.cell (p := ⟨w1.heap.size, 1, none⟩) hzq).trans HQ1.out
  have hn3 : w1.heap.size < w3.heap.size := Nat.lt_of_lt_of_le hzq hb3.size
  have c0 := (hb23.cell (p := ⟨w2.heap.size, 0, none⟩) hzr).trans r0
  have c1 := (hb23.cell (p := ⟨w2.heap.size, 1, none⟩) hzr).trans r1
  have c2 := (hb23.cell (p := ⟨w2.heap.size, 2, none⟩) hzr).trans r2
  have c3 := (hb23.cell (p := ⟨w2.heap.size, 3, none⟩) hzr).trans r3
  have u0 : W3.cell? ⟨w3.heap.size, 0, none⟩ = some (.int .i64 e2) := by rw [hW3]; simp
  have u1 : W3.cell? ⟨w3.heap.size, 1, none⟩ = some (.slice ob o2.length oc3) := by rw [hW3]; simp
  have u2 : W3.cell? ⟨w3.heap.size, 2, none⟩ = some (.slice db d2.length dc3) := by rw [hW3]; simp
  have u3 : W3.cell? ⟨w3.heap.size, 3, none⟩ = some (.int .i64 t2) := by rw [hW3]; simp
  have hz3 : w3.heap.size < W3.heap.size := by rw [hW3]; simp
  have hz2 : w2.heap.size < W3.heap.size := Nat.lt_of_lt_of_le hzr hb23.size
  have hz1 : w1.heap.size < W3.heap.size := Nat.lt_of_lt_of_le hzq hb23.size
  have hzw : w.heap.size < W3.heap.size := Nat.lt_of_lt_of_le hzz hb23.size
  have HW3 := hid hW3
  clear hW3 hbb hb23 hno3 hnd3 hb3 q0 q1 hq2 HZ0 HQ0 HQ1 r0 r1 r2 r3 hzr hzq hzz HB2 HI2 HO2 HD2 HW2
  go_wp2_with fail
  rw [← HW3.out]
  refine (HCk.out _ _ _ HI3.out).mono ?_
  rintro e w4 ⟨rfl, hb4⟩
  have HB4 := hid (HB3.out.trans (hb4.mono HB3.out.size))
  have HO4 := hid (HO3.out.later hb4)
  have HD4 := hid (HD3.out.later hb4)
  have HO4' := hid (HO3'.out.later hb4)
  have HD4' := hid (HD3'.out.later hb4)
  have A0 := (hb4.cell (p := ⟨w.heap.size, 0, none⟩) hzw).trans a0
  have B0 := (hb4.cell (p := ⟨w1.heap.size, 0, none⟩) hz1).trans b0
  have C0 := (hb4.cell (p := ⟨w2.heap.size, 0, none⟩) hz2).trans c0
  have C1 := (hb4.cell (p := ⟨w2.heap.size, 1, none⟩) hz2).trans c1
  have C2 := (hb4.cell (p := ⟨w2.heap.size, 2, none⟩) hz2).trans c2
  have C3 := (hb4.cell (p := ⟨w2.heap.size, 3, none⟩) hz2).trans c3
  have U0 := (hb4.cell (p := ⟨w3.heap.size, 0, none⟩) hz3).trans u0
  have U1 := (hb4.cell (p := ⟨w3.heap.size, 1, none⟩) hz3).trans u1
  have U2 := (hb4.cell (p := ⟨w3.heap.size, 2, none⟩) hz3).trans u2
  have U3 := (hb4.cell (p := ⟨w3.heap.size, 3, none⟩) hz3).trans u3
  have hz24 : w2.heap.size < w4.heap.size := Nat.lt_of_lt_of_le hz2 hb4.size
  have hz34 : w3.heap.size < w4.heap.size := Nat.lt_of_lt_of_le hz3 hb4.size
  clear hb4 a0 b0 n0 n1 hn3 c0 c1 c2 c3 u0 u1 u2 u3 hz3 hz2 hz1 hzw HB3 HI3 HO3 HD3 HO3' HD3' HW3
  have k6 : (e2 == 6) = false := beq_eq_false_iff_ne.2 h6
  have k7 : (e2 == 7) = false := beq_eq_false_iff_ne.2 h7
  go_wp2_with (first
    | (go_at_call 10; refine (HBg.out _).mono ?_; rintro e w5 ⟨rfl, hb5⟩; have HB5 := hid (HB4.out.trans (hb5.mono HB4.out.size)); have HO5 := hid (HO4.out.later hb5); have HD5 := hid (HD4.out.later hb5); have HO5' := hid (HO4'.out.later hb5); have HD5' := hid (HD4'.out.later hb5); have V0 := (hb5.cell (p := ⟨w2.heap.size, 0, none⟩) hz24).trans C0; have V1 := (hb5.cell (p := ⟨w2.heap.size, 1, none⟩) hz24).trans C1; have V2 := (hb5.cell (p := ⟨w2.heap.size, 2, none⟩) hz24).trans C2; have V3 := (hb5.cell (p := ⟨w2.heap.size, 3, none⟩) hz24).trans C3; have X0 := (hb5.cell (p := ⟨w3.heap.size, 0, none⟩) hz34).trans U0; have X1 := (hb5.cell (p := ⟨w3.heap.size, 1, none⟩) hz34).trans U1; have X2 := (hb5.cell (p := ⟨w3.heap.size, 2, none⟩) hz34).trans U2; have X3 := (hb5.cell (p := ⟨w3.heap.size, 3, none⟩) hz34).trans U3; clear hb5)
    | (go_at_call 15; refine (HSm.out _ _ _ _ _ _ _ _ _ HO5'.out HO5.out HD5'.out HD5.out HLl.out HLd.out).mono ?_; rintro e w6 ⟨rfl, hb6⟩; have HB6 := hid (HB5.out.trans (hb6.mono HB5.out.size)); clear hb6))
  go_ret
  exact ⟨rfl, HB6.out⟩

end Go.Proofs.Ytpahhhhfhnpmjaa
