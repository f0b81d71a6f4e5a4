/-
  The program's items.
-/
import Derived.Test.YtidhbgidkgopfaaFo
namespace Go.Proofs.Ytidhbgidkgopfaa
open Go.RowKit Go.Shelf
set_option maxRecDepth 100000

def itV (i : It) : Value := .agg #[.int .i64 i.kind, .int .i64 i.n, .int .i64 i.at_, .string i.name]
def pItem (l : List UInt8) : Option (It × List UInt8) :=
  (pByte l).bind fun a => (pText a.2).bind fun b => (pNum b.2).bind fun c => (pNum c.2).bind fun d => some (⟨a.1, c.1, d.1, strOf b.1⟩, d.2)
theorem gcell {W w1 : World} {rb : Nat} (hg : W.grownBy w1 (some rb)) : (∀ b o, b < W.heap.size → ¬ b = rb → w1.cell? ⟨b, o, none⟩ = W.cell? ⟨b, o, none⟩) ∧ (∀ b o, b < W.heap.size → ¬ b = rb → w1.frozen? ⟨b, o, none⟩ = W.frozen? ⟨b, o, none⟩) :=
  ⟨fun b o h hne => World.cell?_of_block (a := ⟨b, o, none⟩) (hg.block b h (fun e => hne (by cases e; rfl))), fun b o h hne => World.frozen?_of_block (a := ⟨b, o, none⟩) (hg.block b h (fun e => hne (by cases e; rfl)))⟩
theorem grown_alloc {w w' : World} {r : Option Nat} (h : w.grownBy w' r) (o : Obj) : w.grownBy (w'.alloc o) r :=
  ⟨h.os, h.tape, h.output, Nat.le_trans h.size (by simp), fun k hk hne => (Below.heap_alloc w' o k (Nat.lt_of_lt_of_le hk h.size)).trans (h.block k hk hne)⟩
theorem grown_put {w w' : World} {r : Option Nat} (h : w.grownBy w' r) {a : Addr} {u : Value} (ha : w.heap.size ≤ a.block) : w.grownBy (w'.setCell a u) r :=
  ⟨h.os, h.tape, h.output, by simpa using h.size, fun k hk hne => (Below.heap_setCell w' a u k (by omega)).trans (h.block k hk hne)⟩
theorem Rdr.alloc {w : World} {rb : Nat} {l : List UInt8} (h : Rdr w rb l) (o : Obj) : Rdr (w.alloc o) rb l := h.kept (grown_alloc (grown_refl w none) o) (by simp)
theorem Rdr.put {w : World} {rb : Nat} {l : List UInt8} (h : Rdr w rb l) {a : Addr} {u : Value} (ha : a.block ≠ rb) : Rdr (w.setCell a u) rb l :=
  h.kept (r := some a.block) ⟨rfl, rfl, rfl, by simp, fun k _ hne => Below.heap_setCell w a u k (fun e => hne (by rw [e]))⟩ (fun e => ha (by cases e; rfl))

/- a block of an item's -/
structure Bx (w : World) (b : Nat) (c0 c1 c2 c3 : Value) : Prop where
  lt : b < w.heap.size
  c0 : w.cell? ⟨b, 0, none⟩ = some c0
  c1 : w.cell? ⟨b, 1, none⟩ = some c1
  c2 : w.cell? ⟨b, 2, none⟩ = some c2
  c3 : w.cell? ⟨b, 3, none⟩ = some c3
  f0 : w.frozen? ⟨b, 0, none⟩ = false
  f1 : w.frozen? ⟨b, 1, none⟩ = false
  f2 : w.frozen? ⟨b, 2, none⟩ = false
  f3 : w.frozen? ⟨b, 3, none⟩ = false
theorem Bx.kept {w w' : World} {b : Nat} {c0 c1 c2 c3 : Value} {r : Option Nat} (h : Bx w b c0 c1 c2 c3) (hg : w.grownBy w' r) (hr : some b ≠ r) : Bx w' b c0 c1 c2 c3 :=
  have hb := hg.block b h.lt hr
  ⟨Nat.lt_of_lt_of_le h.lt hg.size, (World.cell?_of_block (a := ⟨b, 0, none⟩) hb).trans h.c0, (World.cell?_of_block (a := ⟨b, 1, none⟩) hb).trans h.c1, (World.cell?_of_block (a := ⟨b, 2, none⟩) hb).trans h.c2, (World.cell?_of_block (a := ⟨b, 3, none⟩) hb).trans h.c3,
   (World.frozen?_of_block (a := ⟨b, 0, none⟩) hb).trans h.f0, (World.frozen?_of_block (a := ⟨b, 1, none⟩) hb).trans h.f1, (World.frozen?_of_block (a := ⟨b, 2, none⟩) hb).trans h.f2, (World.frozen?_of_block (a := ⟨b, 3, none⟩) hb).trans h.f3⟩
theorem Bx.alloc {w : World} {b : Nat} {c0 c1 c2 c3 : Value} (h : Bx w b c0 c1 c2 c3) (o : Obj) : Bx (w.alloc o) b c0 c1 c2 c3 := h.kept (grown_alloc (grown_refl w none) o) (by simp)
theorem Bx.far {w : World} {b : Nat} {c0 c1 c2 c3 : Value} (h : Bx w b c0 c1 c2 c3) {a : Addr} {u : Value} (ha : ¬ b = a.block) : Bx (w.setCell a u) b c0 c1 c2 c3 :=
  h.kept (r := some a.block) ⟨rfl, rfl, rfl, by simp, fun k _ hne => Below.heap_setCell w a u k (fun e => hne (by rw [e]))⟩ (fun e => ha (by cases e; rfl))
theorem Bx.new (w : World) (t : TypeId) (c0 c1 c2 c3 : Value) : Bx (w.alloc (.cells #[c0, c1, c2, c3] t)) w.heap.size c0 c1 c2 c3 := by
  constructor <;> simp
theorem Bx.set3 {w : World} {b : Nat} {c0 c1 c2 c3 : Value} (h : Bx w b c0 c1 c2 c3) (u : Value) : Bx (w.setCell ⟨b, 3, none⟩ u) b c0 c1 c2 u :=
  ⟨by simpa using h.lt, (World.cell?_setCell_other _ _ _ _ (by simp)).trans h.c0, (World.cell?_setCell_other _ _ _ _ (by simp)).trans h.c1, (World.cell?_setCell_other _ _ _ _ (by simp)).trans h.c2, World.cell?_setCell_same _ _ _ h.c3, by simpa using h.f0, by simpa using h.f1, by simpa using h.f2, by simpa using h.f3⟩
theorem Bx.set1 {w : World} {b : Nat} {c0 c1 c2 c3 : Value} (h : Bx w b c0 c1 c2 c3) (u : Value) : Bx (w.setCell ⟨b, 1, none⟩ u) b c0 u c2 c3 :=
  ⟨by simpa using h.lt, (World.cell?_setCell_other _ _ _ _ (by simp)).trans h.c0, World.cell?_setCell_same _ _ _ h.c1, (World.cell?_setCell_other _ _ _ _ (by simp)).trans h.c2, (World.cell?_setCell_other _ _ _ _ (by simp)).trans h.c3, by simpa using h.f0, by simpa using h.f1, by simpa using h.f2, by simpa using h.f3⟩
theorem pText_len {l x r : List UInt8} (h : pText l = some (x, r)) : r.length ≤ l.length := by
  unfold pText at h
  cases hb : pByte l with
  | none => rw [hb] at h; cases h
  | some q =>
    rw [hb] at h
    have h1 := (pByte_lo (l := l) (n := q.1) (r := q.2) hb).2.2
    have h2 := (pTake_len (show pTake q.1.toNat q.2 = some (x, r) from h)).2
    have h3 : q.2.length = x.length + r.length := by rw [h2, List.length_append]
    omega
theorem pNum_len {l r : List UInt8} {n : Int} (h : pNum l = some (n, r)) : r.length ≤ l.length := by
  unfold pNum at h
  cases hb : pTake 8 l with
  | none => rw [hb] at h; cases h
  | some q =>
    obtain ⟨x, y⟩ := q
    rw [hb] at h
    cases h
    have h2 := (pTake_len hb).2
    rw [h2, List.length_append]; show y.length ≤ _; omega

set_option maxHeartbeats 1600000 in
theorem item_ok (hcl : CloneOk) (rb : Nat) (l l1 l2 l3 l4 nm : List UInt8) (k n a : Int) (w : World) (h : Rdr w rb l) (hl : l.length ≤ 1000000000000000)
    (h1 : pByte l = some (k, l1)) (h2 : pText l1 = some (nm, l2)) (h3 : pNum l2 = some (n, l3)) (h4 : pNum l3 = some (a, l4)) :
    Calls Try.prog 25 #[.pointer (some ⟨rb, 0, none⟩)] w fun e w' => e = .returned (itV ⟨k, n, a, strOf nm⟩) ∧ w.grownBy w' (some rb) ∧ Rdr w' rb l4 := by
  have y1 := (pByte_lo h1).2.2
  have y2 := pText_len h2
  have y3 := pNum_len h3
  have HB : Hid (∀ W, Rdr W rb l → Calls Try.prog 24 #[.pointer (some ⟨rb, 0, none⟩)] W fun e w' => e = .returned (.int .i64 k) ∧ W.grownBy w' (some rb) ∧ Rdr w' rb l1) := fun W hW => (Byte_any rb l W hW hl).mono fun e w' h => h.of_some h1
  have HT : Hid (∀ W, Rdr W rb l1 → Calls Try.prog 22 #[.pointer (some ⟨rb, 0, none⟩)] W fun e w' => e = .returned (.string (strOf nm)) ∧ W.grownBy w' (some rb) ∧ Rdr w' rb l2) := fun W hW => (Text_any hcl rb l1 W hW (by omega)).mono fun e w' h => h.of_some h2
  have HM : Hid (∀ W, Rdr W rb l2 → Calls Try.prog 39 #[.pointer (some ⟨rb, 0, none⟩)] W fun e w' => e = .returned (.int .i64 n) ∧ W.grownBy w' (some rb) ∧ Rdr w' rb l3) := fun W hW => (Number_any rb l2 W hW (by omega)).mono fun e w' h => h.of_some h3
  have HA : Hid (∀ W, Rdr W rb l3 → Calls Try.prog 39 #[.pointer (some ⟨rb, 0, none⟩)] W fun e w' => e = .returned (.int .i64 a) ∧ W.grownBy w' (some rb) ∧ Rdr w' rb l4) := fun W hW => (Number_any rb l3 W hW (by omega)).mono fun e w' h => h.of_some h4
  have HR := hid h
  have hlt := h.lt
  have hn0 : ¬ w.heap.size = rb := by omega
  clear h h1 h2 h3 h4 y1 y2 y3
  go_enter Try.func25, Try.ntmps25
  go_wp2_with (first
    | (go_at_call 24; refine (HB.out _ (HR.out.alloc _)).mono ?_; rintro e w1 ⟨rfl, hg, hr⟩; have HG1 : Hid (w.grownBy w1 (some rb)) := grown_trans (grown_alloc (grown_refl _ _) _) hg; have HX1 := hid ((Bx.new w 40 _ _ _ _).kept hg (by simpa using hn0)); have HR1 := hid hr; have hz1 := hg.size; have hn1 : ¬ w1.heap.size = rb := (by simp at hz1; omega); have hn2 : ¬ w.heap.size = w1.heap.size := (by simp at hz1; omega); clear hg hr)
    | (go_at_call 22; refine (HT.out _ (HR1.out.alloc _)).mono ?_; rintro e w2 ⟨rfl, hg, hr⟩; have HG2 : Hid (w.grownBy w2 (some rb)) := grown_trans (grown_alloc HG1.out _) hg; have hX2 := (HX1.out.alloc _).kept hg (by simpa using hn0); have HX2 := hid hX2; have hI2 := (Bx.new w1 40 _ _ _ _).kept hg (by simpa using hn1); have HI2 := hid hI2; have HR2 := hid hr; obtain ⟨il, ic0, ic1, ic2, ic3, if0, if1, if2, if3⟩ := hI2; clear hg hr hX2)
    | (go_at_call 39; refine (HM.out _ (HR2.out.put (by simpa using hn1))).mono ?_; rintro e w3 ⟨rfl, hg, hr⟩; have HG3 : Hid (w.grownBy w3 (some rb)) := grown_trans (grown_put HG2.out (by simp at hz1; simp; omega)) hg; have HX3 := hid ((HX2.out.far (by simpa using hn2)).kept hg (by simpa using hn0)); have hI3 := (HI2.out.set3 _).kept hg (by simpa using hn1); have HI3 := hid hI3; have HR3 := hid hr; clear hg hr il ic0 ic1 ic2 ic3 if0 if1 if2 if3; obtain ⟨il, ic0, ic1, ic2, ic3, if0, if1, if2, if3⟩ := hI3)
    | (go_at_call 39; refine (HA.out _ (HR3.out.put (by simpa using hn1))).mono ?_; rintro e w4 ⟨rfl, hg, hr⟩; have HG4 : Hid (w.grownBy w4 (some rb)) := grown_trans (grown_put HG3.out (by simp at hz1; simp; omega)) hg; have hX4 := (HX3.out.far (by simpa using hn2)).kept hg (by simpa using hn0); have hI4 := (HI3.out.set1 _).kept hg (by simpa using hn1); have HR4 := hid hr; clear hg hr il ic0 ic1 ic2 ic3 if0 if1 if2 if3; obtain ⟨il, ic0, ic1, ic2, ic3, if0, if1, if2, if3⟩ := hI4; have hX5 := hX4.far (a := ⟨w1.heap.size, 2, none⟩) (u := .int .i64 a) hn2; obtain ⟨xl, xc0, xc1, xc2, xc3, xf0, xf1, xf2, xf3⟩ := hX4; obtain ⟨zl, zc0, zc1, zc2, zc3, zf0, zf1, zf2, zf3⟩ := hX5))
  obtain ⟨F, hF⟩ : ∃ F, F = ((((w4.setCell ⟨w1.heap.size, 2, none⟩ (.int .i64 a)).setCell ⟨w.heap.size, 0, none⟩ (.int .i64 k)).setCell ⟨w.heap.size, 1, none⟩ (.int .i64 n)).setCell ⟨w.heap.size, 2, none⟩ (.int .i64 a)).setCell ⟨w.heap.size, 3, none⟩ (.string (strOf nm)) := ⟨_, rfl⟩
  have HGF : Hid (w.grownBy F (some rb)) := by
    rw [hF]
    exact grown_put (grown_put (grown_put (grown_put (grown_put HG4.out (by simp at hz1; simp; omega)) (Nat.le_refl _)) (Nat.le_refl _)) (Nat.le_refl _)) (Nat.le_refl _)
  have HRF : Hid (Rdr F rb l4) := by
    rw [hF]
    exact ((((HR4.out.put (by simpa using fun e => hn1 e)).put (by simpa using hn0)).put (by simpa using hn0)).put (by simpa using hn0)).put (by simpa using hn0)
  have q0 : F.cell? ⟨w.heap.size, 0, none⟩ = some (.int .i64 k) := by rw [hF, World.cell?_setCell_other _ _ _ _ (by simp), World.cell?_setCell_other _ _ _ _ (by simp), World.cell?_setCell_other _ _ _ _ (by simp)]; exact World.cell?_setCell_same _ _ _ zc0
  have q1 : F.cell? ⟨w.heap.size, 1, none⟩ = some (.int .i64 n) := by rw [hF, World.cell?_setCell_other _ _ _ _ (by simp), World.cell?_setCell_other _ _ _ _ (by simp)]; exact World.cell?_setCell_same _ _ _ ((World.cell?_setCell_other _ _ _ _ (by simp)).trans zc1)
  have q2 : F.cell? ⟨w.heap.size, 2, none⟩ = some (.int .i64 a) := by rw [hF, World.cell?_setCell_other _ _ _ _ (by simp)]; exact World.cell?_setCell_same _ _ _ ((World.cell?_setCell_other _ _ _ _ (by simp)).trans ((World.cell?_setCell_other _ _ _ _ (by simp)).trans zc2))
  have q3 : F.cell? ⟨w.heap.size, 3, none⟩ = some (.string (strOf nm)) := by rw [hF]; exact World.cell?_setCell_same _ _ _ ((World.cell?_setCell_other _ _ _ _ (by simp)).trans ((World.cell?_setCell_other _ _ _ _ (by simp)).trans ((World.cell?_setCell_other _ _ _ _ (by simp)).trans zc3)))
  rw [← hF]
  clear hF zc0 zc1 zc2 zc3 zf0 zf1 zf2 zf3 xc0 xc1 xc2 xc3 ic0 ic1 ic2 ic3
  refine bodyPost_ret (v := itV ⟨k, n, a, strOf nm⟩) ?_ rfl ⟨rfl, HGF.out, HRF.out⟩
  simp [results, Try.results25, go_sem, q0, q1, q2, q3, itV]

end Go.Proofs.Ytidhbgidkgopfaa
