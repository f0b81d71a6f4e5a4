/-
  The program's Peep: what it begins with.
-/
import Derived.Test.YtpahhhhfhnpmjaaQn
import Derived.Test.YtpahhhhfhnpmjaaQl
namespace Go.Proofs.Ytpahhhhfhnpmjaa
open Go.RowKit Go.Shelf
set_option maxRecDepth 100000

/- what the loop begins with -/
structure Ps (a : Option Addr) (cap : Nat) (was : List Mc.Ins) (d : Int) (w : World) (hb g gc m : Nat) (c : List Mc.Ins) (W : World) : Prop where
  hole : Hole W a g m was c (Mc.marks was)
  below : Below w.heap.size w W
  b0 : W.cell? ⟨hb, 0, none⟩ = some (.slice a was.length cap)
  b1 : W.cell? ⟨hb, 1, none⟩ = some (.slice (some ⟨g, 0, none⟩) was.length gc)
  b2 : W.cell? ⟨hb, 2, none⟩ = some (.slice (some ⟨m, 0, none⟩) was.length was.length)
  hbl : hb < W.heap.size
  hbg : ¬ hb = g
  hbw : w.heap.size + 2 ≤ hb
  gw : w.heap.size + 2 ≤ g
  gcn : was.length ≤ gc
  d1 : W.cell? ⟨w.heap.size, 1, none⟩ = some (.int .i64 d)
  r0 : W.cell? ⟨w.heap.size + 1, 0, none⟩ = some (.slice none 0 0)
  r1 : W.cell? ⟨w.heap.size + 1, 1, none⟩ = some (.int .i64 0)
  q0 : W.frozen? ⟨w.heap.size + 1, 0, none⟩ = false
  q1 : W.frozen? ⟨w.heap.size + 1, 1, none⟩ = false

/- the box of a hole, before it is laid -/
structure Zb (W : World) (b : Nat) : Prop where
  lt : b < W.heap.size
  c0 : W.cell? ⟨b, 0, none⟩ = some (.slice none 0 0)
  c1 : W.cell? ⟨b, 1, none⟩ = some (.slice none 0 0)
  c2 : W.cell? ⟨b, 2, none⟩ = some (.slice none 0 0)
  f0 : W.frozen? ⟨b, 0, none⟩ = false
  f1 : W.frozen? ⟨b, 1, none⟩ = false
  f2 : W.frozen? ⟨b, 2, none⟩ = false
theorem Zb.new (W : World) : Zb (W.alloc (.cells #[.slice none 0 0, .slice none 0 0, .slice none 0 0] 47)) W.heap.size := by constructor <;> simp
theorem Zb.later {W W' : World} {b : Nat} (h : Zb W b) (hb : Below W.heap.size W W') : Zb W' b :=
  ⟨Nat.lt_of_lt_of_le h.lt hb.size, (hb.cell (p := ⟨b, 0, none⟩) h.lt).trans h.c0, (hb.cell (p := ⟨b, 1, none⟩) h.lt).trans h.c1, (hb.cell (p := ⟨b, 2, none⟩) h.lt).trans h.c2, (hb.frozen (p := ⟨b, 0, none⟩) h.lt).trans h.f0, (hb.frozen (p := ⟨b, 1, none⟩) h.lt).trans h.f1, (hb.frozen (p := ⟨b, 2, none⟩) h.lt).trans h.f2⟩
theorem zk_a {Y w' : World} (hb : Below (Y.alloc (.cells #[.slice none 0 0, .slice none 0 0, .slice none 0 0] 47)).heap.size (Y.alloc (.cells #[.slice none 0 0, .slice none 0 0, .slice none 0 0] 47)) w') : Zb w' Y.heap.size := (Zb.new Y).later hb
theorem zk_d {Y w' : World} (hb : Below (Y.alloc (.cells #[.slice none 0 0, .slice none 0 0, .slice none 0 0] 47)).drew.heap.size (Y.alloc (.cells #[.slice none 0 0, .slice none 0 0, .slice none 0 0] 47)).drew w') : Zb w' Y.heap.size := (Zb.new Y).later ((Below.refl _ _).drew.trans hb)
/- what is handed in, and what comes out: as they were at w1 -/
structure Ins1 (a : Option Addr) (code : List Mc.Ins) (d : Int) (w w1 : World) : Prop where
  img : ImgAt w1 a code
  below : Below w.heap.size w w1
  sz : w.heap.size + 2 ≤ w1.heap.size
  d1 : w1.cell? ⟨w.heap.size, 1, none⟩ = some (.int .i64 d)
  r0 : w1.cell? ⟨w.heap.size + 1, 0, none⟩ = some (.slice none 0 0)
  r1 : w1.cell? ⟨w.heap.size + 1, 1, none⟩ = some (.int .i64 0)
  q0 : w1.frozen? ⟨w.heap.size + 1, 0, none⟩ = false
  q1 : w1.frozen? ⟨w.heap.size + 1, 1, none⟩ = false
  apart : ∀ b off, a = some ⟨b, off, none⟩ → b < w.heap.size
theorem ps_of {a : Option Addr} {cap : Nat} {code : List Mc.Ins} {d : Int} {w w1 F : World} {hb g gc m : Nat} (h : Ins1 a code d w w1) (hF : Below w1.heap.size w1 F) (hC : CRow F g code) (hM : BRow F m (Mc.marks code)) (h0 : 0 < code.length) (h1 : code.length ≤ 2048)
    (b0 : F.cell? ⟨hb, 0, none⟩ = some (.slice a code.length cap)) (b1 : F.cell? ⟨hb, 1, none⟩ = some (.slice (some ⟨g, 0, none⟩) code.length gc)) (b2 : F.cell? ⟨hb, 2, none⟩ = some (.slice (some ⟨m, 0, none⟩) code.length code.length))
    (hbl : hb < F.heap.size) (hbg : ¬ hb = g) (hbw : w1.heap.size ≤ hb) (hgw : w1.heap.size ≤ g) (hgm : ¬ m = g) (hgc : code.length ≤ gc) : Ps a cap code d w hb g gc m code F :=
  have hsz := h.sz
  ⟨⟨h.img.later hF, fun b off e => by have := h.apart b off e; omega, hC, hM, hgm, rfl, Mc.marksTo_len code _, h0, h1⟩, h.below.trans (hF.mono h.below.size), b0, b1, b2, hbl, hbg, by omega, by omega, hgc,
   (hF.cell (p := ⟨w.heap.size, 1, none⟩) (by show w.heap.size < _; omega)).trans h.d1, (hF.cell (p := ⟨w.heap.size + 1, 0, none⟩) (by show w.heap.size + 1 < _; omega)).trans h.r0, (hF.cell (p := ⟨w.heap.size + 1, 1, none⟩) (by show w.heap.size + 1 < _; omega)).trans h.r1,
   (hF.frozen (p := ⟨w.heap.size + 1, 0, none⟩) (by show w.heap.size + 1 < _; omega)).trans h.q0, (hF.frozen (p := ⟨w.heap.size + 1, 1, none⟩) (by show w.heap.size + 1 < _; omega)).trans h.q1⟩
theorem CRow.later {w w' : World} {g : Nat} {c : List Mc.Ins} (h : CRow w g c) (hb : Below w.heap.size w w') : CRow w' g c := h.kept (grown_below none hb) (by simp)
theorem BRow.later {w w' : World} {g : Nat} {c : List Bool} (h : BRow w g c) (hb : Below w.heap.size w w') : BRow w' g c := h.kept (grown_below none hb) (by simp)
theorem CRow.far {w : World} {g : Nat} {c : List Mc.Ins} (h : CRow w g c) {a : Addr} {u : Value} (ha : ¬ g = a.block) : CRow (w.setCell a u) g c := h.kept (put_grown w a u) (fun e => ha (Option.some.inj e))
theorem BRow.far {w : World} {g : Nat} {c : List Bool} (h : BRow w g c) {a : Addr} {u : Value} (ha : ¬ g = a.block) : BRow (w.setCell a u) g c := h.kept (put_grown w a u) (fun e => ha (Option.some.inj e))
/- laid into a box that was there -/
theorem ps_set {a : Option Addr} {cap : Nat} {code : List Mc.Ins} {d : Int} {w w1 X : World} {hb g gc m : Nat} (h : Ins1 a code d w w1) (hX : Below w1.heap.size w1 X) (hC : CRow X g code) (hM : BRow X m (Mc.marks code)) (h0 : 0 < code.length) (h1 : code.length ≤ 2048)
    (hz : Zb X hb) (hbg : ¬ hb = g) (hbm : ¬ hb = m) (hbw : w1.heap.size ≤ hb) (hgw : w1.heap.size ≤ g) (hgm : ¬ m = g) (hgc : code.length ≤ gc) :
    Ps a cap code d w hb g gc m code (((X.setCell ⟨hb, 0, none⟩ (.slice a code.length cap)).setCell ⟨hb, 1, none⟩ (.slice (some ⟨g, 0, none⟩) code.length gc)).setCell ⟨hb, 2, none⟩ (.slice (some ⟨m, 0, none⟩) code.length code.length)) := by
  refine ps_of h (((hX.setCell (p := ⟨hb, 0, none⟩) hbw _).setCell (p := ⟨hb, 1, none⟩) hbw _).setCell (p := ⟨hb, 2, none⟩) hbw _) (((hC.far (fun e => hbg e.symm)).far (fun e => hbg e.symm)).far (fun e => hbg e.symm)) (((hM.far (fun e => hbm e.symm)).far (fun e => hbm e.symm)).far (fun e => hbm e.symm)) h0 h1 ?_ ?_ ?_ (by simpa using hz.lt) hbg hbw hgw hgm hgc
  · rw [World.cell?_setCell_other _ _ _ _ (by simp), World.cell?_setCell_other _ _ _ _ (by simp)]
    exact World.cell?_setCell_same _ _ _ hz.c0
  · rw [World.cell?_setCell_other _ _ _ _ (by simp)]
    exact World.cell?_setCell_same _ _ _ ((World.cell?_setCell_other _ _ _ _ (by simp)).trans hz.c1)
  · exact World.cell?_setCell_same _ _ _ ((World.cell?_setCell_other _ _ _ _ (by simp)).trans ((World.cell?_setCell_other _ _ _ _ (by simp)).trans hz.c2))
/- laid into a box that is new -/
theorem ps_new {a : Option Addr} {cap : Nat} {code : List Mc.Ins} {d : Int} {w w1 X : World} {g gc m : Nat} (h : Ins1 a code d w w1) (hX : Below w1.heap.size w1 X) (hC : CRow X g code) (hM : BRow X m (Mc.marks code)) (h0 : 0 < code.length) (h1 : code.length ≤ 2048)
    (hgw : w1.heap.size ≤ g) (hgm : ¬ m = g) (hgc : code.length ≤ gc) :
    Ps a cap code d w X.heap.size g gc m code (X.alloc (.cells #[.slice a code.length cap, .slice (some ⟨g, 0, none⟩) code.length gc, .slice (some ⟨m, 0, none⟩) code.length code.length] 47)) :=
  ps_of h (hX.alloc hX.size _) (hC.later ((Below.refl _ _).alloc (Nat.le_refl _) _)) (hM.later ((Below.refl _ _).alloc (Nat.le_refl _) _)) h0 h1 (by simp) (by simp) (by simp) (by simp) (by have := hC.lt; omega) hX.size hgw hgm hgc

theorem Ps.look {a : Option Addr} {cap : Nat} {was : List Mc.Ins} {d : Int} {w : World} {hb g gc m : Nat} {c c' : List Mc.Ins} {W W' : World} (h : Ps a cap was d w hb g gc m c W) (hc : CRow W' g c') (hl : c'.length = c.length) (hg : W.grownBy W' (some g)) : Ps a cap was d w hb g gc m c' W' := by
  have hgw := h.gw
  have hgm := h.hole.gm
  have hz := h.below.size
  have k : ∀ b o, b < W.heap.size → ¬ b = g → W'.cell? ⟨b, o, none⟩ = W.cell? ⟨b, o, none⟩ := fun b o h1 h2 => World.cell?_of_block (a := ⟨b, o, none⟩) (hg.block b h1 (fun e => h2 (Option.some.inj e)))
  have kf : ∀ b o, b < W.heap.size → ¬ b = g → W'.frozen? ⟨b, o, none⟩ = W.frozen? ⟨b, o, none⟩ := fun b o h1 h2 => World.frozen?_of_block (a := ⟨b, o, none⟩) (hg.block b h1 (fun e => h2 (Option.some.inj e)))
  have hbw := h.hbw
  have hbl := h.hbl
  refine ⟨⟨?_, h.hole.apart, hc, h.hole.marks.kept hg (fun e => hgm (Option.some.inj e)), hgm, hl.trans h.hole.lc, h.hole.lm, h.hole.pos, h.hole.len⟩, below_grew h.below hg hz (fun k e => by have := Option.some.inj e; omega), (k _ _ hbl h.hbg).trans h.b0, (k _ _ hbl h.hbg).trans h.b1, (k _ _ hbl h.hbg).trans h.b2, Nat.lt_of_lt_of_le hbl hg.size, h.hbg, hbw, hgw, h.gcn, (k _ _ (by omega) (by omega)).trans h.d1, (k _ _ (by omega) (by omega)).trans h.r0, (k _ _ (by omega) (by omega)).trans h.r1, (kf _ _ (by omega) (by omega)).trans h.q0, (kf _ _ (by omega) (by omega)).trans h.q1⟩
  rcases h.hole.old with h' | ⟨b, off, e, hl', h'⟩
  · exact Or.inl h'
  · have hbg := h.hole.apart b off e
    exact Or.inr ⟨b, off, e, Nat.lt_of_lt_of_le hl' hg.size, fun i hi => ⟨(k _ _ hl' hbg).trans (h' i hi).1, (k _ _ hl' hbg).trans (h' i hi).2.1, (k _ _ hl' hbg).trans (h' i hi).2.2⟩⟩
def Up (w1 W : World) : Prop := Below w1.heap.size w1 W ∧ w1.heap.size ≤ W.heap.size
theorem Up.refl (w1 : World) : Up w1 w1 := ⟨Below.refl _ _, Nat.le_refl _⟩
theorem Up.drew {w1 W : World} (h : Up w1 W) : Up w1 W.drew := ⟨h.1.drew, h.2⟩
theorem Up.alloc {w1 W : World} {o : Obj} (h : Up w1 W) : Up w1 (W.alloc o) := ⟨h.1.alloc h.2 o, Nat.le_trans h.2 (by simp)⟩
theorem Up.via {w1 X W : World} (hb : Below X.heap.size X W) (h : Up w1 X) : Up w1 W := ⟨h.1.trans (hb.mono h.2), Nat.le_trans h.2 hb.size⟩
theorem CRow.alloc {w : World} {g : Nat} {c : List Mc.Ins} {o : Obj} (h : CRow w g c) : CRow (w.alloc o) g c := h.later ((Below.refl _ _).alloc (Nat.le_refl _) _)

set_option maxHeartbeats 3200000 in
theorem Peep_ok (a : Option Addr) (cap : Nat) (code : List Mc.Ins) (d : Int) (w : World) (hT : ImgAt w a code) (h : checkI code d = 0) :
    Calls Try.prog 6 #[.agg #[.slice a code.length cap, .int .i64 d]] w fun e w' => ∃ g gc, e = .returned (.tuple #[.agg #[.slice (some ⟨g, 0, none⟩) code.length gc, .int .i64 d], .int .i64 0]) ∧ w.heap.size ≤ g ∧ CRow w' g (Mc.peep code) ∧ Below w.heap.size w w' := by
  obtain ⟨h0, h1, -, -, -⟩ := check_zero h
  obtain ⟨i0, hi, hz0, hz1, hz2⟩ := info_parts info51
  have HC : Hid (∀ W, ImgAt W a code → Calls Try.prog 14 #[.agg #[.slice a code.length cap, .int .i64 d]] W fun e w' => e = .returned (.int .i64 0) ∧ Below W.heap.size W w') := fun W hW => by rw [← h]; exact Check_any a cap code d W hW (by omega)
  have HM : Hid (∀ W, ImgAt W a code → Calls Try.prog 16 #[.slice a code.length cap] W fun e w' => ∃ g, e = .returned (.slice (some ⟨g, 0, none⟩) code.length code.length) ∧ W.heap.size ≤ g ∧ BRow w' g (Mc.marks code) ∧ Below W.heap.size W w') := fun W hW => marksOf_any a cap code W hW h0 h1
  have HT := hid hT
  obtain ⟨W0, hW0⟩ : ∃ W0 : World, W0 = (w.alloc (.cells #[.slice a code.length cap, .int .i64 d] 24)).alloc (.cells #[.slice none 0 0, .int .i64 0] 24) := ⟨_, rfl⟩
  have HB0 : Hid (Below w.heap.size w W0) := by rw [hW0]; exact ((Below.refl _ _).alloc (Nat.le_refl _) _).alloc (by simp) _
  have x0 : W0.cell? ⟨w.heap.size + 1, 0, none⟩ = some (.slice none 0 0) := by rw [hW0]; simp
  have x1 : W0.cell? ⟨w.heap.size + 1, 1, none⟩ = some (.int .i64 0) := by rw [hW0]; simp
  have f0 : W0.frozen? ⟨w.heap.size + 1, 0, none⟩ = false := by rw [hW0]; simp
  have f1 : W0.frozen? ⟨w.heap.size + 1, 1, none⟩ = false := by rw [hW0]; simp
  have z0 : W0.cell? ⟨w.heap.size, 0, none⟩ = some (.slice a code.length cap) := by rw [hW0]; simp
  have z1 : W0.cell? ⟨w.heap.size, 1, none⟩ = some (.int .i64 d) := by rw [hW0]; simp
  have hz : w.heap.size + 1 < W0.heap.size := by rw [hW0]; simp
  have hzz : w.heap.size < W0.heap.size := by omega
  have HW0 := hid hW0
  clear hT hW0 h
  go_enter Try.func6, Try.ntmps6
  go_wp2_with fail
  rw [← HW0.out]
  refine (HC.out _ (HT.out.later HB0.out)).mono ?_
  rintro e w1 ⟨rfl, hb1⟩
  have HY : Hid (w1.cell? ⟨w.heap.size + 1, 0, none⟩ = some (.slice none 0 0) ∧ w1.cell? ⟨w.heap.size + 1, 1, none⟩ = some (.int .i64 0) ∧ w1.frozen? ⟨w.heap.size + 1, 0, none⟩ = false ∧ w1.frozen? ⟨w.heap.size + 1, 1, none⟩ = false ∧ w1.cell? ⟨w.heap.size, 1, none⟩ = some (.int .i64 d)) :=
    ⟨(hb1.cell (p := ⟨w.heap.size + 1, 0, none⟩) hz).trans x0, (hb1.cell (p := ⟨w.heap.size + 1, 1, none⟩) hz).trans x1, (hb1.frozen (p := ⟨w.heap.size + 1, 0, none⟩) hz).trans f0, (hb1.frozen (p := ⟨w.heap.size + 1, 1, none⟩) hz).trans f1, (hb1.cell (p := ⟨w.heap.size, 1, none⟩) hzz).trans z1⟩
  have y0 := (hb1.cell (p := ⟨w.heap.size, 0, none⟩) hzz).trans z0
  have HB1 := hid (HB0.out.trans (hb1.mono HB0.out.size))
  have hs1 : w.heap.size + 2 ≤ w1.heap.size := by have := hb1.size; omega
  have hI1 : Ins1 a code d w w1 := ⟨HT.out.later HB1.out, HB1.out, hs1, HY.out.2.2.2.2, HY.out.1, HY.out.2.1, HY.out.2.2.1, HY.out.2.2.2.1, fun b off e => by
    rcases HT.out with h' | ⟨b', off', e', hl', _⟩
    · rw [h'] at h0; simp at h0
    · rw [e] at e'; cases e'; exact hl'⟩
  have HI1 := hid hI1
  obtain ⟨b, off, rfl, hbl, hnw⟩ := hI1.img.get h0
  have HNw : Hid (∀ W, Below w1.heap.size w1 W → ∀ j u, (cellsC code)[j]? = some u → W.cell? ((⟨b, off, none⟩ : Addr).add j) = some u) := fun W hW => news_of (fun k hk => ⟨(hW.cell (p := ⟨b, off + k * 3, none⟩) hbl).trans (hnw k hk).1, (hW.cell (p := ⟨b, off + k * 3 + 1, none⟩) hbl).trans (hnw k hk).2.1, (hW.cell (p := ⟨b, off + k * 3 + 2, none⟩) hbl).trans (hnw k hk).2.2⟩)
  have HIm : Hid (∀ W, Below w1.heap.size w1 W → ImgAt W (some ⟨b, off, none⟩) code) := fun W hW => hI1.img.later hW
  have hs0 : w.heap.size < w1.heap.size := by omega
  clear hb1 x0 x1 f0 f1 z0 z1 hz hzz HB0 HW0 HC HT hI1 hnw HY HB1
  go_wp2_with fail
  go_cut [5] from 13 (fun v wx => ∃ hb g gc m, v = .pointer (some ⟨hb, 0, none⟩) ∧ Hid (Ps (some ⟨b, off, none⟩) cap code d w hb g gc m code wx))
  case first =>
    have hpos : (0 : Int) < (code.length : Int) := by omega
    have sn1 : ¬ w.heap.size = w1.heap.size := by omega
    have sn2 : ¬ w1.heap.size = w.heap.size := by omega
    go_region_held_law (fun W => W.cell? ⟨w.heap.size, 0, none⟩ = some (.slice (some ⟨b, off, none⟩) code.length cap)) (first | (go_keep; done) | exact FF.out)
      (first
        | (refine step_append_lies _ (by rfl) _ _ _ (by rfl) (w.heap.size + 2) 51 i0 _ 3 24 Try.underlying22 hi hz0 hz1 hz2 rfl (by omega) (.slice none 0 0) 0 [] rfl (World.ownsRow_nil _ _ _ _) ⟨b, off, none⟩ code.length cap (cellsC code) rfl (cellsC_len code) (HNw.out _ (And.left (show Up w1 _ from (by repeat (first | assumption | exact Up.refl _ | refine Up.alloc ?_ | refine Up.drew ?_ | refine Up.via ‹Below _ _ _› ?_))))) (cellsC_one code) h0 (by unfold maxLen; omega) (by omega) (by simp <;> omega) _ rfl ?_; intro g gc wA hown hgA hat hltA; have hbA := below_grew (Below.refl _ _) hgA (Nat.le_refl _) (fun k e => by cases e); have hUA : Up w1 wA := (by repeat (first | assumption | exact Up.refl _ | refine Up.alloc ?_ | refine Up.drew ?_ | refine Up.via ‹Below _ _ _› ?_)); rw [Nat.zero_add, List.nil_append] at hown; have hCr := row_of hown; have hgH := hat.resolve_left (fun e => by cases e); (try simp at hgH); have HgH := hid hgH; clear hgH; have FF : Hid (wA.cell? ⟨w.heap.size, 0, none⟩ = some (.slice (some ⟨b, off, none⟩) code.length cap)) := (hUA.1.cell (p := ⟨w.heap.size, 0, none⟩) hs0).trans y0; have sA : ¬ w.heap.size = wA.heap.size := (by have := hUA.2; omega); have sA' : ¬ wA.heap.size = w.heap.size := (by omega); (first | have hzb := zk_a hbA | have hzb := zk_d hbA | skip); clear hown hgA hat)
        | (go_at_call 16; refine (HM.out _ (HIm.out _ (And.left (show Up w1 _ from (by repeat (first | assumption | exact Up.refl _ | refine Up.alloc ?_ | refine Up.drew ?_ | refine Up.via ‹Below _ _ _› ?_)))))).mono ?_; rintro e wM ⟨m, rfl, hm, hrM, hbM⟩; (try simp at hm); have hUM : Up w1 wM := (by repeat (first | assumption | exact Up.refl _ | refine Up.alloc ?_ | refine Up.drew ?_ | refine Up.via ‹Below _ _ _› ?_)); have hCM : CRow wM g code := (by first | exact hCr.1.later hbM | exact hCr.1.alloc.later hbM); have FF : Hid (wM.cell? ⟨w.heap.size, 0, none⟩ = some (.slice (some ⟨b, off, none⟩) code.length cap)) := (hUM.1.cell (p := ⟨w.heap.size, 0, none⟩) hs0).trans y0; have s9 := FF.out; have sl9 : w.heap.size < wM.heap.size := (by have := hUM.2; omega); (first | have hzb := zk_a hbM | have hzb := zk_d hbM | have hzb := hzb.later hbM | skip); (first | (have HZb := hid hzb; obtain ⟨zl, zc0, zc1, zc2, zf0, zf1, zf2⟩ := hzb) | skip)))
    all_goals
      go_wp2_with fail
      go_meet
      refine ⟨_, g, gc, m, rfl, ?_⟩
      have hgH := HgH.out
      first
        | exact ps_new HI1.out hUM.1 hCM hrM h0 h1 (by omega) (by omega) hCr.2.2
        | exact ps_set HI1.out hUM.1 hCM hrM h0 h1 HZb.out (by omega) (by omega) (by omega) (by omega) (by omega) hCr.2.2
  case rest =>
    obtain ⟨hb, g, gc, m, rfl, HP⟩ := hcut
    have HLk : Hid (∀ (c : List Mc.Ins) (k : Nat) (W : World), Ps (some ⟨b, off, none⟩) cap code d w hb g gc m c W → k < code.length → Calls Try.prog 17 #[.agg #[.slice (some ⟨b, off, none⟩) code.length cap, .slice (some ⟨g, 0, none⟩) code.length gc, .slice (some ⟨m, 0, none⟩) code.length code.length], .int .i64 k] W fun e w' => e = .returned (.tuple #[]) ∧ CRow w' g (Mc.lookAt code c (Mc.marks code) k) ∧ W.grownBy w' (some g)) := fun c k W hW hk => look_any _ g m code.length cap gc code.length code c (Mc.marks code) k W hW.hole rfl hk hW.gcn
    clear HI1 HNw HIm HM hs1 hs0 hbl y0
    have p1 := HP.out.b1
    go_wp2_with fail
    go_loopw [25, 6] (fun u _ wr => ∃ k : Nat, k ≤ code.length ∧ u = .int .i64 k ∧ Ps (some ⟨b, off, none⟩) cap code d w hb g gc m (Mc.peepTo code (Mc.marks code) k) wr) (fun u _ _ => code.length - (intOf u).toNat)
    case atStart => exact ⟨0, Nat.zero_le _, rfl, HP.out⟩
    case round =>
      obtain ⟨k, hk, rfl, hP⟩ := hrel
      have HPk := hid hP
      clear HP p1
      by_cases hlt : k < code.length
      · obtain ⟨-, -, b0, b1, b2, -, -, -, -, -, -, -, -, -, -⟩ := hP
        go_wp2_with (go_at_call 17; refine (HLk.out _ k _ HPk.out hlt).mono ?_; rintro e w2 ⟨rfl, hc2, hg2⟩; have HP2 : Hid (Ps (some ⟨b, off, none⟩) cap code d w hb g gc m (Mc.peepTo code (Mc.marks code) (k + 1)) w2) := HPk.out.look hc2 (Mc.lookAt_len _ _ _ _) hg2; clear hc2 hg2)
        go_roundw
        case rel => exact ⟨k + 1, by omega, by go_num, HP2.out⟩
        case measure => simp [intOf]; omega
      · obtain rfl : k = code.length := by omega
        obtain ⟨-, hbel, b0, b1, b2, -, -, -, -, -, d1, r0, r1, q0, q1⟩ := hP
        have HE : Hid (Below w.heap.size w wr ∧ CRow wr g (Mc.peep code) ∧ w.heap.size + 2 ≤ g) := ⟨hbel, HPk.out.hole.code, HPk.out.gw⟩
        clear hbel hlt
        go_wp2_with fail
        have e0 : ((wr.setCell ⟨w.heap.size + 1, 0, none⟩ (.slice (some ⟨g, 0, none⟩) code.length gc)).setCell ⟨w.heap.size + 1, 1, none⟩ (.int .i64 d)).cell? ⟨w.heap.size + 1, 0, none⟩ = some (.slice (some ⟨g, 0, none⟩) code.length gc) := (World.cell?_setCell_other _ _ _ _ (by simp)).trans (World.cell?_setCell_same _ _ _ r0)
        have e1 : ((wr.setCell ⟨w.heap.size + 1, 0, none⟩ (.slice (some ⟨g, 0, none⟩) code.length gc)).setCell ⟨w.heap.size + 1, 1, none⟩ (.int .i64 d)).cell? ⟨w.heap.size + 1, 1, none⟩ = some (.int .i64 d) := World.cell?_setCell_same _ _ _ ((World.cell?_setCell_other _ _ _ _ (by simp)).trans r1)
        have hgw := HE.out.2.2
        have hB : Below w.heap.size w ((wr.setCell ⟨w.heap.size + 1, 0, none⟩ (.slice (some ⟨g, 0, none⟩) code.length gc)).setCell ⟨w.heap.size + 1, 1, none⟩ (.int .i64 d)) := (HE.out.1.setCell (p := ⟨w.heap.size + 1, 0, none⟩) (by show w.heap.size ≤ w.heap.size + 1; omega) _).setCell (p := ⟨w.heap.size + 1, 1, none⟩) (by show w.heap.size ≤ w.heap.size + 1; omega) _
        have hC : CRow ((wr.setCell ⟨w.heap.size + 1, 0, none⟩ (.slice (some ⟨g, 0, none⟩) code.length gc)).setCell ⟨w.heap.size + 1, 1, none⟩ (.int .i64 d)) g (Mc.peep code) := (HE.out.2.1.far (by show ¬ g = w.heap.size + 1; omega)).far (by show ¬ g = w.heap.size + 1; omega)
        generalize (wr.setCell ⟨w.heap.size + 1, 0, none⟩ (.slice (some ⟨g, 0, none⟩) code.length gc)).setCell ⟨w.heap.size + 1, 1, none⟩ (.int .i64 d) = F at *
        refine bodyPost_ret (v := .tuple #[.agg #[.slice (some ⟨g, 0, none⟩) code.length gc, .int .i64 d], .int .i64 0]) ?_ rfl ⟨g, gc, rfl, by omega, hC, hB⟩
        simp [results, Try.results6, go_sem, e0, e1]

end Go.Proofs.Ytpahhhhfhnpmjaa
