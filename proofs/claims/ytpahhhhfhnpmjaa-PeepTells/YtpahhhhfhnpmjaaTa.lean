/-
  PeepTells: what lies there between its calls; the reference's SameImages.
-/
import Derived.Test.YtpahhhhfhnpmjaaSb
import Derived.Test.YtpahhhhfhnpmjaaRa
namespace Go.Proofs.Ytpahhhhfhnpmjaa
open Go.RowKit Go.Shelf
set_option maxRecDepth 100000

theorem tl_new (W : World) (cs : Array Value) (t : TypeId) (n i : Nat) (v : Value) (hn : n = W.heap.size) (hv : cs[i]? = some v) : (W.alloc (.cells cs t)).cell? ⟨n, i, none⟩ = some v := by
  subst hn
  rw [Lib.cell_of_heap (_root_.Go.heap_alloc_new W _)]
  exact hv

set_option maxHeartbeats 1600000 in
theorem SameImages_same (c : List Mc.Ins) (n : Nat) (hn : c.length = n) (a a' : Option Addr) (c1 c2 : Nat) (d : Int) (w : World) (hA : ImgAt w a c) (hA' : ImgAt w a' c) (hl : c.length ≤ 1000000000000000) :
    Calls Try.prog 11 #[.agg #[.slice a n c1, .int .i64 d], .agg #[.slice a' n c2, .int .i64 d]] w fun e w' => e = .returned (.bool true) ∧ Below w.heap.size w w' := by
  subst hn
  have HS : Hid (∀ W, Below w.heap.size w W → Calls Try.prog 25 #[.slice a c.length c1, .slice a' c.length c2] W fun e w' => e = .returned (.bool true) ∧ ∃ m, w' = W.drewN m) := fun W hW => SameCode_same c a a' c1 c2 W (hA.later hW) (hA'.later hW) hl
  have HUp : Hid (∀ o1 o2, Below w.heap.size w ((w.alloc o1).alloc o2)) := fun o1 o2 => ((Below.refl _ _).alloc (Nat.le_refl _) _).alloc (by simp) _
  clear hA hA' hl
  generalize c.length = n at *
  go_enter Try.func11, Try.ntmps11
  go_wp2_with (go_at_call 25; refine (HS.out _ (HUp.out _ _)).mono ?_; rintro e w' ⟨rfl, m, rfl⟩)
  go_ret
  exact ⟨rfl, below_drewN (HUp.out _ _) _⟩

structure Tl (a : Option Addr) (n cap : Nat) (d : Int) (w : World) (pb zb g1 g2 gc2 : Nat) (mk : List Bool) (p : List Mc.Ins) (W : World) : Prop where
  i0 : W.cell? ⟨w.heap.size, 0, none⟩ = some (.slice a n cap)
  i1 : W.cell? ⟨w.heap.size, 1, none⟩ = some (.int .i64 d)
  p0 : W.cell? ⟨pb, 0, none⟩ = some (.slice (some ⟨g2, 0, none⟩) n gc2)
  p1 : W.cell? ⟨pb, 1, none⟩ = some (.int .i64 d)
  z0 : W.cell? ⟨zb, 0, none⟩ = some (.slice none 0 0)
  z1 : W.cell? ⟨zb, 1, none⟩ = some (.int .i64 0)
  q0 : W.frozen? ⟨zb, 0, none⟩ = false
  q1 : W.frozen? ⟨zb, 1, none⟩ = false
  mr : BRow W g1 mk
  pr : CRow W g2 p
  below : Below w.heap.size w W
  zw : zb < W.heap.size
  wz : w.heap.size < zb
  pz : pb < zb
  mz : g1 < zb
  rz : g2 < zb
theorem Tl.later {a : Option Addr} {n cap : Nat} {d : Int} {w : World} {pb zb g1 g2 gc2 : Nat} {mk : List Bool} {p : List Mc.Ins} {W W' : World} (h : Tl a n cap d w pb zb g1 g2 gc2 mk p W) (hb : Below W.heap.size W W') : Tl a n cap d w pb zb g1 g2 gc2 mk p W' := by
  have zw := h.zw
  have wz := h.wz
  have pz := h.pz
  have k : ∀ b o, b < W.heap.size → W'.cell? ⟨b, o, none⟩ = W.cell? ⟨b, o, none⟩ := fun b o hx => hb.cell (p := ⟨b, o, none⟩) hx
  have kf : ∀ b o, b < W.heap.size → W'.frozen? ⟨b, o, none⟩ = W.frozen? ⟨b, o, none⟩ := fun b o hx => hb.frozen (p := ⟨b, o, none⟩) hx
  exact ⟨(k _ _ (by omega)).trans h.i0, (k _ _ (by omega)).trans h.i1, (k _ _ (by omega)).trans h.p0, (k _ _ (by omega)).trans h.p1, (k _ _ (by omega)).trans h.z0, (k _ _ (by omega)).trans h.z1, (kf _ _ (by omega)).trans h.q0, (kf _ _ (by omega)).trans h.q1,
    h.mr.later hb, h.pr.later hb, h.below.trans (hb.mono h.below.size), Nat.lt_of_lt_of_le zw hb.size, wz, pz, h.mz, h.rz⟩
theorem tl_mk {a : Option Addr} {n cap : Nat} {d : Int} {w w2 w3 : World} {g1 g2 gc2 : Nat} {mk : List Bool} {p : List Mc.Ins} (hB : Below w.heap.size w w2) (hs : w.heap.size < w2.heap.size) (i0 : w2.cell? ⟨w.heap.size, 0, none⟩ = some (.slice a n cap)) (i1 : w2.cell? ⟨w.heap.size, 1, none⟩ = some (.int .i64 d)) (hm : BRow w2 g1 mk) (hp : CRow w2 g2 p)
    (hb3 : Below (w2.alloc (.cells #[.slice (some ⟨g2, 0, none⟩) n gc2, .int .i64 d] 24)).heap.size (w2.alloc (.cells #[.slice (some ⟨g2, 0, none⟩) n gc2, .int .i64 d] 24)) w3) :
    Tl a n cap d w w2.heap.size w3.heap.size g1 g2 gc2 mk p (w3.alloc (.cells #[.slice none 0 0, .int .i64 0] 24)) := by
  have hU : Below w2.heap.size w2 (w2.alloc (.cells #[.slice (some ⟨g2, 0, none⟩) n gc2, .int .i64 d] 24)) := (Below.refl _ _).alloc (Nat.le_refl _) _
  have hz3 := hb3.size
  simp at hz3
  have h23 : Below w2.heap.size w2 w3 := hU.trans (hb3.mono (by simp))
  have h34 : Below w3.heap.size w3 (w3.alloc (.cells #[.slice none 0 0, .int .i64 0] 24)) := (Below.refl _ _).alloc (Nat.le_refl _) _
  have h24 : Below w2.heap.size w2 (w3.alloc (.cells #[.slice none 0 0, .int .i64 0] 24)) := h23.trans (h34.mono (by omega))
  have hml := hm.lt
  have hpl := hp.lt
  refine ⟨(h24.cell (p := ⟨w.heap.size, 0, none⟩) hs).trans i0, (h24.cell (p := ⟨w.heap.size, 1, none⟩) hs).trans i1, ?_, ?_, tl_new _ _ _ _ _ _ rfl rfl, tl_new _ _ _ _ _ _ rfl rfl, by simp, by simp, hm.later h24, hp.later h24, hB.trans (h24.mono hB.size), by simp, by omega, by omega, by omega, by omega⟩
  · exact (h34.cell (p := ⟨w2.heap.size, 0, none⟩) (by show w2.heap.size < _; omega)).trans ((hb3.cell (p := ⟨w2.heap.size, 0, none⟩) (by simp)).trans (tl_new _ _ _ _ _ _ rfl rfl))
  · exact (h34.cell (p := ⟨w2.heap.size, 1, none⟩) (by show w2.heap.size < _; omega)).trans ((hb3.cell (p := ⟨w2.heap.size, 1, none⟩) (by simp)).trans (tl_new _ _ _ _ _ _ rfl rfl))

/- behind the drawn assignment -/
structure Tm (n : Nat) (d : Int) (w : World) (pb zb g1 g2 gc2 gm gp gpc : Nat) (mk : List Bool) (p : List Mc.Ins) (W : World) : Prop where
  p0 : W.cell? ⟨pb, 0, none⟩ = some (.slice (some ⟨g2, 0, none⟩) n gc2)
  p1 : W.cell? ⟨pb, 1, none⟩ = some (.int .i64 d)
  z0 : W.cell? ⟨zb, 0, none⟩ = some (.slice (some ⟨gp, 0, none⟩) n gpc)
  z1 : W.cell? ⟨zb, 1, none⟩ = some (.int .i64 d)
  mr : BRow W g1 mk
  mo : BRow W gm mk
  pr : CRow W g2 p
  po : CRow W gp p
  below : Below w.heap.size w W
  zw : zb < W.heap.size
  pz : pb < zb
theorem Tm.later {n : Nat} {d : Int} {w : World} {pb zb g1 g2 gc2 gm gp gpc : Nat} {mk : List Bool} {p : List Mc.Ins} {W W' : World} (h : Tm n d w pb zb g1 g2 gc2 gm gp gpc mk p W) (hb : Below W.heap.size W W') : Tm n d w pb zb g1 g2 gc2 gm gp gpc mk p W' := by
  have zw := h.zw
  have pz := h.pz
  have k : ∀ b o, b < W.heap.size → W'.cell? ⟨b, o, none⟩ = W.cell? ⟨b, o, none⟩ := fun b o hx => hb.cell (p := ⟨b, o, none⟩) hx
  exact ⟨(k _ _ (by omega)).trans h.p0, (k _ _ (by omega)).trans h.p1, (k _ _ (by omega)).trans h.z0, (k _ _ (by omega)).trans h.z1, h.mr.later hb, h.mo.later hb, h.pr.later hb, h.po.later hb, h.below.trans (hb.mono h.below.size), Nat.lt_of_lt_of_le zw hb.size, pz⟩
theorem tm_mk {a : Option Addr} {n cap : Nat} {d : Int} {w : World} {pb zb g1 g2 gc2 gm gp gpc : Nat} {mk : List Bool} {p : List Mc.Ins} {W : World} (h : Tl a n cap d w pb zb g1 g2 gc2 mk p W) (hm : BRow W gm mk) (hp : CRow W gp p) (h1 : ¬ gm = zb) (h2 : ¬ gp = zb) :
    Tm n d w pb zb g1 g2 gc2 gm gp gpc mk p ((W.setCell ⟨zb, 0, none⟩ (.slice (some ⟨gp, 0, none⟩) n gpc)).setCell ⟨zb, 1, none⟩ (.int .i64 d)) := by
  have zw := h.zw
  have pz := h.pz
  have mz := h.mz
  have rz := h.rz
  have wz := h.wz
  refine ⟨?_, ?_, ?_, ?_, (h.mr.far (by show ¬ g1 = zb; omega)).far (by show ¬ g1 = zb; omega), (hm.far h1).far h1, (h.pr.far (by show ¬ g2 = zb; omega)).far (by show ¬ g2 = zb; omega), (hp.far h2).far h2, (h.below.setCell (p := ⟨zb, 0, none⟩) (by show w.heap.size ≤ zb; omega) _).setCell (p := ⟨zb, 1, none⟩) (by show w.heap.size ≤ zb; omega) _, by simpa using zw, pz⟩
  · rw [World.cell?_setCell_other _ _ _ _ (by simp <;> omega), World.cell?_setCell_other _ _ _ _ (by simp <;> omega)]; exact h.p0
  · rw [World.cell?_setCell_other _ _ _ _ (by simp <;> omega), World.cell?_setCell_other _ _ _ _ (by simp <;> omega)]; exact h.p1
  · rw [World.cell?_setCell_other _ _ _ _ (by simp)]; exact World.cell?_setCell_same _ _ _ h.z0
  · exact World.cell?_setCell_same _ _ _ ((World.cell?_setCell_other _ _ _ _ (by simp)).trans h.z1)

end Go.Proofs.Ytpahhhhfhnpmjaa
