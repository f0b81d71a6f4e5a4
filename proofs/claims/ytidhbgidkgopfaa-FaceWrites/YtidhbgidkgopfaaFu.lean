/-
  The program's face out of a reader.
-/
import Derived.Test.YtidhbgidkgopfaaFt
namespace Go.Proofs.Ytidhbgidkgopfaa
open Go.RowKit Go.Shelf
set_option maxRecDepth 100000

structure Bf (w : World) (b : Nat) (c0 c1 : Value) : Prop where
  lt : b < w.heap.size
  c0 : w.cell? ⟨b, 0, none⟩ = some c0
  c1 : w.cell? ⟨b, 1, none⟩ = some c1
  f0 : w.frozen? ⟨b, 0, none⟩ = false
  f1 : w.frozen? ⟨b, 1, none⟩ = false
theorem Bf.kept {w w' : World} {b : Nat} {c0 c1 : Value} {r : Option Nat} (h : Bf w b c0 c1) (hg : w.grownBy w' r) (hr : some b ≠ r) : Bf w' b c0 c1 :=
  have hb := hg.block b h.lt hr
  ⟨Nat.lt_of_lt_of_le h.lt hg.size, (World.cell?_of_block (a := ⟨b, 0, none⟩) hb).trans h.c0, (World.cell?_of_block (a := ⟨b, 1, none⟩) hb).trans h.c1, (World.frozen?_of_block (a := ⟨b, 0, none⟩) hb).trans h.f0, (World.frozen?_of_block (a := ⟨b, 1, none⟩) hb).trans h.f1⟩
theorem Bf.alloc {w : World} {b : Nat} {c0 c1 : Value} (h : Bf w b c0 c1) (o : Obj) : Bf (w.alloc o) b c0 c1 := h.kept (grown_alloc (grown_refl w none) o) (by simp)
theorem Bf.far {w : World} {b : Nat} {c0 c1 : Value} (h : Bf w b c0 c1) {a : Addr} {u : Value} (ha : ¬ b = a.block) : Bf (w.setCell a u) b c0 c1 :=
  h.kept (r := some a.block) ⟨rfl, rfl, rfl, by simp, fun k _ hne => Below.heap_setCell w a u k (fun e => hne (by rw [e]))⟩ (fun e => ha (by cases e; rfl))
theorem Bf.new (w : World) (t : TypeId) (c0 c1 : Value) : Bf (w.alloc (.cells #[c0, c1] t)) w.heap.size c0 c1 := by
  constructor <;> simp
theorem ownsRow_put {W : World} {B : Nat} {e : TypeId} {size : Nat} {v : Value} {n : Nat} {xs : List Value} {a : Addr} {u : Value} (h : W.ownsRow B e size v n xs) (ha : a.block < B) : (W.setCell a u).ownsRow B e size v n xs := by
  refine ⟨h.1, ?_⟩
  rcases h.2 with h1 | ⟨g, cap, cur, hv, hB, hc, hq⟩
  · exact Or.inl h1
  · exact Or.inr ⟨g, cap, cur, hv, hB, (Below.heap_setCell W a u g (by omega)).trans hc, hq⟩
theorem ownsRow_low {W : World} {B B' : Nat} {e : TypeId} {size : Nat} {v : Value} {n : Nat} {xs : List Value} (h : W.ownsRow B e size v n xs) (hB : B' ≤ B) : W.ownsRow B' e size v n xs := by
  refine ⟨h.1, ?_⟩
  rcases h.2 with h1 | ⟨g, cap, cur, hv, hg, hq⟩
  · exact Or.inl h1
  · exact Or.inr ⟨g, cap, cur, hv, Nat.le_trans hB hg, hq⟩
theorem IRow.slice {B : Nat} {w : World} {v : Value} {x : List It} (h : IRow B w v x) : ∃ ad cap, v = .slice ad x.length cap := by
  rcases h.2 with ⟨hv, h0⟩ | ⟨g, cap, cur, hv, _⟩
  · exact ⟨none, 0, by rw [hv, h0]⟩
  · exact ⟨_, cap, hv⟩
def pFace (l : List UInt8) : Option (Fc × List UInt8) :=
  (pText l).bind fun a => (pByte a.2).bind fun b => (pItems b.1.toNat b.2).bind fun c => some (⟨strOf a.1, c.1⟩, c.2)
def FEnd (B rb : Nat) (w : World) (r : Option (Fc × List UInt8)) (e : Ending) (w' : World) : Prop :=
  w.grownBy w' (some rb) ∧ ((r = none ∧ e = .panicked shortP) ∨ ∃ f l v, r = some (f, l) ∧ e = .returned (.agg #[.string f.name, v]) ∧ IRow B w' v f.items ∧ Rdr w' rb l)
theorem LEnd.of_none {B rb : Nat} {w w' : World} {r : Option (List It × List UInt8)} {e : Ending} (h : LEnd B rb w r e w') (hr : r = none) : e = .panicked shortP ∧ w.grownBy w' (some rb) := by
  obtain ⟨hg, ⟨_, he⟩ | ⟨x, l', v, hr', _⟩⟩ := h
  · exact ⟨he, hg⟩
  · rw [hr] at hr'; cases hr'
theorem LEnd.of_some {B rb : Nat} {w w' : World} {r : Option (List It × List UInt8)} {e : Ending} {x : List It} {l : List UInt8} (h : LEnd B rb w r e w') (hr : r = some (x, l)) : ∃ v, e = .returned v ∧ w.grownBy w' (some rb) ∧ IRow B w' v x ∧ Rdr w' rb l := by
  obtain ⟨hg, ⟨hr', _⟩ | ⟨x', l', v, hr', he, h1, h2⟩⟩ := h
  · rw [hr] at hr'; cases hr'
  · rw [hr] at hr'; cases hr'; exact ⟨v, he, hg, h1, h2⟩

set_option maxHeartbeats 1600000 in
theorem face_bad0 (hcl : CloneOk) (rb : Nat) (l : List UInt8) (w : World) (h : Rdr w rb l) (hl : l.length ≤ 1000000000000000) (h1 : pText l = none) :
    Calls Try.prog 21 #[.pointer (some ⟨rb, 0, none⟩)] w fun e w' => e = .panicked shortP ∧ w.grownBy w' (some rb) := by
  have HT : Hid (∀ W, Rdr W rb l → Calls Try.prog 22 #[.pointer (some ⟨rb, 0, none⟩)] W fun e w' => e = .panicked shortP ∧ W.grownBy w' (some rb)) := fun W hW => (Text_any hcl rb l W hW hl).mono fun e w' h => h.of_none h1
  have HR := hid h
  clear h h1
  go_enter Try.func21, Try.ntmps21
  go_wp2_with (go_at_call 22; refine (HT.out _ (HR.out.alloc _)).mono ?_; rintro e w1 ⟨rfl, hg⟩; have HGz : Hid (w.grownBy w1 (some rb)) := grown_trans (grown_alloc (grown_refl _ _) _) hg; clear hg)
  exact ⟨rfl, rfl, HGz.out⟩

set_option maxHeartbeats 1600000 in
theorem face_bad1 (hcl : CloneOk) (rb : Nat) (l l1 nm : List UInt8) (w : World) (h : Rdr w rb l) (hl : l.length ≤ 1000000000000000) (h1 : pText l = some (nm, l1)) (h2 : pByte l1 = none) :
    Calls Try.prog 21 #[.pointer (some ⟨rb, 0, none⟩)] w fun e w' => e = .panicked shortP ∧ w.grownBy w' (some rb) := by
  have y1 := pText_len h1
  have HT : Hid (∀ W, Rdr W rb l → Calls Try.prog 22 #[.pointer (some ⟨rb, 0, none⟩)] W fun e w' => e = .returned (.string (strOf nm)) ∧ W.grownBy w' (some rb) ∧ Rdr w' rb l1) := fun W hW => (Text_any hcl rb l W hW hl).mono fun e w' h => h.of_some h1
  have HB : Hid (∀ W, Rdr W rb l1 → Calls Try.prog 24 #[.pointer (some ⟨rb, 0, none⟩)] W fun e w' => e = .panicked shortP ∧ W.grownBy w' (some rb)) := fun W hW => (Byte_any rb l1 W hW (by omega)).mono fun e w' h => h.of_none h2
  have HR := hid h
  clear h h1 h2 y1
  go_enter Try.func21, Try.ntmps21
  go_wp2_with (first
    | (go_at_call 22; refine (HT.out _ (HR.out.alloc _)).mono ?_; rintro e w1 ⟨rfl, hg, hr⟩; have HG1 : Hid (w.grownBy w1 (some rb)) := grown_trans (grown_alloc (grown_refl _ _) _) hg; have HR1 := hid hr; clear hg hr)
    | (go_at_call 24; refine (HB.out _ (HR1.out.alloc _)).mono ?_; rintro e w2 ⟨rfl, hg⟩; have HGz : Hid (w.grownBy w2 (some rb)) := grown_trans (grown_alloc HG1.out _) hg; clear hg))
  exact ⟨rfl, rfl, HGz.out⟩

set_option maxHeartbeats 1600000 in
theorem face_bad2 (hcl : CloneOk) (rb : Nat) (l l1 l2 nm : List UInt8) (n : Nat) (w : World) (h : Rdr w rb l) (hl : l.length ≤ 1000000000000000) (h1 : pText l = some (nm, l1)) (h2 : pByte l1 = some ((n : Int), l2)) (h3 : pItems n l2 = none) :
    Calls Try.prog 21 #[.pointer (some ⟨rb, 0, none⟩)] w fun e w' => e = .panicked shortP ∧ w.grownBy w' (some rb) := by
  have y1 := pText_len h1
  have y2 := pByte_lo h2
  have HT : Hid (∀ W, Rdr W rb l → Calls Try.prog 22 #[.pointer (some ⟨rb, 0, none⟩)] W fun e w' => e = .returned (.string (strOf nm)) ∧ W.grownBy w' (some rb) ∧ Rdr w' rb l1) := fun W hW => (Text_any hcl rb l W hW hl).mono fun e w' h => h.of_some h1
  have HB : Hid (∀ W, Rdr W rb l1 → Calls Try.prog 24 #[.pointer (some ⟨rb, 0, none⟩)] W fun e w' => e = .returned (.int .i64 n) ∧ W.grownBy w' (some rb) ∧ Rdr w' rb l2) := fun W hW => (Byte_any rb l1 W hW (by omega)).mono fun e w' h => h.of_some h2
  have HL : Hid (∀ W, Rdr W rb l2 → Calls Try.prog 23 #[.pointer (some ⟨rb, 0, none⟩), .int .i64 n, .func (.func 25) #[] #[]] W fun e w' => e = .panicked shortP ∧ W.grownBy w' (some rb)) := fun W hW => (List_any hcl rb n l2 W hW (by omega) (by omega)).mono fun e w' h => h.of_none h3
  have HR := hid h
  clear h h1 h2 h3 y1 y2
  go_enter Try.func21, Try.ntmps21
  go_wp2_with (first
    | (go_at_call 22; refine (HT.out _ (HR.out.alloc _)).mono ?_; rintro e w1 ⟨rfl, hg, hr⟩; have HG1 : Hid (w.grownBy w1 (some rb)) := grown_trans (grown_alloc (grown_refl _ _) _) hg; have HR1 := hid hr; clear hg hr)
    | (go_at_call 24; refine (HB.out _ (HR1.out.alloc _)).mono ?_; rintro e w2 ⟨rfl, hg, hr⟩; have HG2 : Hid (w.grownBy w2 (some rb)) := grown_trans (grown_alloc HG1.out _) hg; have HR2 := hid hr; clear hg hr)
    | (go_at_call 23; refine (HL.out _ HR2.out).mono ?_; rintro e w3 ⟨rfl, hg⟩; have HGz : Hid (w.grownBy w3 (some rb)) := grown_trans HG2.out hg; clear hg))
  exact ⟨rfl, rfl, HGz.out⟩

set_option maxHeartbeats 1600000 in
theorem face_ok (hcl : CloneOk) (rb : Nat) (l l1 l2 l3 nm : List UInt8) (xs : List It) (n : Nat) (w : World) (h : Rdr w rb l) (hl : l.length ≤ 1000000000000000) (h1 : pText l = some (nm, l1)) (h2 : pByte l1 = some ((n : Int), l2)) (h3 : pItems n l2 = some (xs, l3)) :
    Calls Try.prog 21 #[.pointer (some ⟨rb, 0, none⟩)] w fun e w' => ∃ v, e = .returned (.agg #[.string (strOf nm), v]) ∧ w.grownBy w' (some rb) ∧ IRow w.heap.size w' v xs ∧ Rdr w' rb l3 := by
  have y1 := pText_len h1
  have y2 := pByte_lo h2
  have HT : Hid (∀ W, Rdr W rb l → Calls Try.prog 22 #[.pointer (some ⟨rb, 0, none⟩)] W fun e w' => e = .returned (.string (strOf nm)) ∧ W.grownBy w' (some rb) ∧ Rdr w' rb l1) := fun W hW => (Text_any hcl rb l W hW hl).mono fun e w' h => h.of_some h1
  have HB : Hid (∀ W, Rdr W rb l1 → Calls Try.prog 24 #[.pointer (some ⟨rb, 0, none⟩)] W fun e w' => e = .returned (.int .i64 n) ∧ W.grownBy w' (some rb) ∧ Rdr w' rb l2) := fun W hW => (Byte_any rb l1 W hW (by omega)).mono fun e w' h => h.of_some h2
  have HL : Hid (∀ W, Rdr W rb l2 → Calls Try.prog 23 #[.pointer (some ⟨rb, 0, none⟩), .int .i64 n, .func (.func 25) #[] #[]] W fun e w' => ∃ v, e = .returned v ∧ W.grownBy w' (some rb) ∧ IRow W.heap.size w' v xs ∧ Rdr w' rb l3) := fun W hW => (List_any hcl rb n l2 W hW (by omega) (by omega)).mono fun e w' h => h.of_some h3
  have HR := hid h
  have hlt := h.lt
  have hn0 : ¬ w.heap.size = rb := by omega
  clear h h1 h2 h3 y1 y2
  go_enter Try.func21, Try.ntmps21
  go_wp2_with (first
    | (go_at_call 22; refine (HT.out _ (HR.out.alloc _)).mono ?_; rintro e w1 ⟨rfl, hg, hr⟩; have HG1 : Hid (w.grownBy w1 (some rb)) := grown_trans (grown_alloc (grown_refl _ _) _) hg; have HX1 := hid ((Bf.new w 24 _ _).kept hg (by simpa using hn0)); have HR1 := hid hr; have hz1 := hg.size; have hn1 : ¬ w1.heap.size = rb := (by simp at hz1; omega); have hn2 : ¬ w.heap.size = w1.heap.size := (by simp at hz1; omega); clear hg hr)
    | (go_at_call 24; refine (HB.out _ (HR1.out.alloc _)).mono ?_; rintro e w2 ⟨rfl, hg, hr⟩; have HG2 : Hid (w.grownBy w2 (some rb)) := grown_trans (grown_alloc HG1.out _) hg; have HX2 := hid ((HX1.out.alloc _).kept hg (by simpa using hn0)); have HI2 := hid ((Bf.new w1 24 _ _).kept hg (by simpa using hn1)); have HR2 := hid hr; have hz2 := hg.size; clear hg hr)
    | (go_at_call 23; refine (HL.out _ HR2.out).mono ?_; rintro e w3 ⟨v, rfl, hg, hrow, hr⟩; obtain ⟨ad, cp, rfl⟩ := hrow.slice; have HG3 : Hid (w.grownBy w3 (some rb)) := grown_trans HG2.out hg; have hX3 := HX2.out.kept hg (by simpa using hn0); have hI3 := HI2.out.kept hg (by simpa using hn1); have HR3 := hid hr; have HW3 := hid hrow; clear hg hr hrow; have hX4 := hX3.far (a := ⟨w1.heap.size, 1, none⟩) (u := .slice ad xs.length cp) hn2; obtain ⟨il, ic0, ic1, if0, if1⟩ := hI3; obtain ⟨xl, xc0, xc1, xf0, xf1⟩ := hX3; obtain ⟨zl, zc0, zc1, zf0, zf1⟩ := hX4))
  obtain ⟨F, hF⟩ : ∃ F, F = ((w3.setCell ⟨w1.heap.size, 1, none⟩ (.slice ad xs.length cp)).setCell ⟨w.heap.size, 0, none⟩ (.string (strOf nm))).setCell ⟨w.heap.size, 1, none⟩ (.slice ad xs.length cp) := ⟨_, rfl⟩
  have hw1 : w.heap.size < w1.heap.size := by simp at hz1; omega
  have hw2 : w1.heap.size < w2.heap.size := by simp at hz2; omega
  have HGF : Hid (w.grownBy F (some rb)) := by
    rw [hF]
    exact grown_put (grown_put (grown_put HG3.out (by show w.heap.size ≤ w1.heap.size; omega)) (Nat.le_refl _)) (Nat.le_refl _)
  have HRF : Hid (Rdr F rb l3) := by
    rw [hF]
    exact ((HR3.out.put (fun e => hn1 e)).put (fun e => hn0 e)).put (fun e => hn0 e)
  have HWF : Hid (IRow w.heap.size F (.slice ad xs.length cp) xs) := by
    rw [hF]
    exact ownsRow_low (ownsRow_put (ownsRow_put (ownsRow_put HW3.out (by show w1.heap.size < _; omega)) (by show w.heap.size < _; omega)) (by show w.heap.size < _; omega)) (by omega)
  have q0 : F.cell? ⟨w.heap.size, 0, none⟩ = some (.string (strOf nm)) := by rw [hF, World.cell?_setCell_other _ _ _ _ (by simp)]; exact World.cell?_setCell_same _ _ _ zc0
  have q1 : F.cell? ⟨w.heap.size, 1, none⟩ = some (.slice ad xs.length cp) := by rw [hF]; exact World.cell?_setCell_same _ _ _ ((World.cell?_setCell_other _ _ _ _ (by simp)).trans zc1)
  rw [← hF]
  clear hF zc0 zc1 zf0 zf1 xc0 xc1 ic0 ic1
  refine bodyPost_ret (v := .agg #[.string (strOf nm), .slice ad xs.length cp]) ?_ rfl ⟨_, rfl, HGF.out, HWF.out, HRF.out⟩
  simp [results, Try.results21, go_sem, q0, q1]

theorem face_any (hcl : CloneOk) (rb : Nat) (l : List UInt8) (w : World) (h : Rdr w rb l) (hl : l.length ≤ 1000000000000000) :
    Calls Try.prog 21 #[.pointer (some ⟨rb, 0, none⟩)] w fun e w' => FEnd w.heap.size rb w (pFace l) e w' := by
  unfold pFace
  cases h1 : pText l with
  | none => exact (face_bad0 hcl rb l w h hl h1).mono fun e w' q => ⟨q.2, Or.inl ⟨rfl, q.1⟩⟩
  | some a =>
    cases h2 : pByte a.2 with
    | none => exact (face_bad1 hcl rb l a.2 a.1 w h hl h1 h2).mono fun e w' q => ⟨q.2, Or.inl ⟨by simp [h2], q.1⟩⟩
    | some b =>
      obtain ⟨n, r⟩ := b
      obtain ⟨k, rfl⟩ : ∃ k : Nat, n = k := ⟨n.toNat, by have := (pByte_lo h2).1; omega⟩
      cases h3 : pItems k r with
      | none => exact (face_bad2 hcl rb l a.2 r a.1 k w h hl h1 h2 h3).mono fun e w' q => ⟨q.2, Or.inl ⟨by simp [h2, h3], q.1⟩⟩
      | some c => exact (face_ok hcl rb l a.2 r c.2 a.1 c.1 k w h hl h1 h2 h3).mono fun e w' ⟨v, q1, q2, q3, q4⟩ => ⟨q2, Or.inr ⟨⟨strOf a.1, c.1⟩, c.2, v, by simp [h2, h3], q1, q3, q4⟩⟩

end Go.Proofs.Ytidhbgidkgopfaa
