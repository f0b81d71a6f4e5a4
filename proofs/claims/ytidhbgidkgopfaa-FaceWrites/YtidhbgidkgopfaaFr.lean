/-
  The program's items: too few bytes.
-/
import Derived.Test.YtidhbgidkgopfaaFq
namespace Go.Proofs.Ytidhbgidkgopfaa
open Go.RowKit Go.Shelf
set_option maxRecDepth 100000

set_option maxHeartbeats 1600000 in
theorem item_bad0 (rb : Nat) (l : List UInt8) (w : World) (h : Rdr w rb l) (hl : l.length ≤ 1000000000000000) (h1 : pByte l = none) :
    Calls Try.prog 25 #[.pointer (some ⟨rb, 0, none⟩)] w fun e w' => e = .panicked shortP ∧ w.grownBy w' (some rb) := by
  have HB : Hid (∀ W, Rdr W rb l → Calls Try.prog 24 #[.pointer (some ⟨rb, 0, none⟩)] W fun e w' => e = .panicked shortP ∧ W.grownBy w' (some rb)) := fun W hW => (Byte_any rb l W hW hl).mono fun e w' h => h.of_none h1
  have HR := hid h
  have hlt := h.lt
  have hn0 : ¬ w.heap.size = rb := by omega
  clear h h1
  go_enter Try.func25, Try.ntmps25
  go_wp2_with (first
    | (go_at_call 24; refine (HB.out _ (HR.out.alloc _)).mono ?_; rintro e w1 ⟨rfl, hg⟩; have HGz : Hid (w.grownBy w1 (some rb)) := grown_trans (grown_alloc (grown_refl _ _) _) hg; clear hg))
  exact ⟨rfl, rfl, HGz.out⟩

set_option maxHeartbeats 1600000 in
theorem item_bad1 (hcl : CloneOk) (rb : Nat) (l l1 : List UInt8) (k : Int) (w : World) (h : Rdr w rb l) (hl : l.length ≤ 1000000000000000) (h1 : pByte l = some (k, l1)) (h2 : pText l1 = none) :
    Calls Try.prog 25 #[.pointer (some ⟨rb, 0, none⟩)] w fun e w' => e = .panicked shortP ∧ w.grownBy w' (some rb) := by
  have y1 := (pByte_lo h1).2.2
  have HB : Hid (∀ W, Rdr W rb l → Calls Try.prog 24 #[.pointer (some ⟨rb, 0, none⟩)] W fun e w' => e = .returned (.int .i64 k) ∧ W.grownBy w' (some rb) ∧ Rdr w' rb l1) := fun W hW => (Byte_any rb l W hW hl).mono fun e w' h => h.of_some h1
  have HT : Hid (∀ W, Rdr W rb l1 → Calls Try.prog 22 #[.pointer (some ⟨rb, 0, none⟩)] W fun e w' => e = .panicked shortP ∧ W.grownBy w' (some rb)) := fun W hW => (Text_any hcl rb l1 W hW (by omega)).mono fun e w' h => h.of_none h2
  have HR := hid h
  have hlt := h.lt
  have hn0 : ¬ w.heap.size = rb := by omega
  clear h h1 h2 y1
  go_enter Try.func25, Try.ntmps25
  go_wp2_with (first
    | (go_at_call 24; refine (HB.out _ (HR.out.alloc _)).mono ?_; rintro e w1 ⟨rfl, hg, hr⟩; have HG1 : Hid (w.grownBy w1 (some rb)) := grown_trans (grown_alloc (grown_refl _ _) _) hg; have HX1 := hid ((Bx.new w 40 _ _ _ _).kept hg (by simpa using hn0)); have HR1 := hid hr; have hz1 := hg.size; have hn1 : ¬ w1.heap.size = rb := (by simp at hz1; omega); have hn2 : ¬ w.heap.size = w1.heap.size := (by simp at hz1; omega); clear hg hr)
    | (go_at_call 22; refine (HT.out _ (HR1.out.alloc _)).mono ?_; rintro e w2 ⟨rfl, hg⟩; have HGz : Hid (w.grownBy w2 (some rb)) := grown_trans (grown_alloc HG1.out _) hg; clear hg))
  exact ⟨rfl, rfl, HGz.out⟩

set_option maxHeartbeats 1600000 in
theorem item_bad2 (hcl : CloneOk) (rb : Nat) (l l1 l2 nm : List UInt8) (k : Int) (w : World) (h : Rdr w rb l) (hl : l.length ≤ 1000000000000000) (h1 : pByte l = some (k, l1)) (h2 : pText l1 = some (nm, l2)) (h3 : pNum l2 = none) :
    Calls Try.prog 25 #[.pointer (some ⟨rb, 0, none⟩)] w fun e w' => e = .panicked shortP ∧ w.grownBy w' (some rb) := by
  have y1 := (pByte_lo h1).2.2
  have y2 := pText_len h2
  have HB : Hid (∀ W, Rdr W rb l → Calls Try.prog 24 #[.pointer (some ⟨rb, 0, none⟩)] W fun e w' => e = .returned (.int .i64 k) ∧ W.grownBy w' (some rb) ∧ Rdr w' rb l1) := fun W hW => (Byte_any rb l W hW hl).mono fun e w' h => h.of_some h1
  have HT : Hid (∀ W, Rdr W rb l1 → Calls Try.prog 22 #[.pointer (some ⟨rb, 0, none⟩)] W fun e w' => e = .returned (.string (strOf nm)) ∧ W.grownBy w' (some rb) ∧ Rdr w' rb l2) := fun W hW => (Text_any hcl rb l1 W hW (by omega)).mono fun e w' h => h.of_some h2
  have HM : Hid (∀ W, Rdr W rb l2 → Calls Try.prog 39 #[.pointer (some ⟨rb, 0, none⟩)] W fun e w' => e = .panicked shortP ∧ W.grownBy w' (some rb)) := fun W hW => (Number_any rb l2 W hW (by omega)).mono fun e w' h => h.of_none h3
  have HR := hid h
  have hlt := h.lt
  have hn0 : ¬ w.heap.size = rb := by omega
  clear h h1 h2 h3 y1 y2
  go_enter Try.func25, Try.ntmps25
  go_wp2_with (first
    | (go_at_call 24; refine (HB.out _ (HR.out.alloc _)).mono ?_; rintro e w1 ⟨rfl, hg, hr⟩; have HG1 : Hid (w.grownBy w1 (some rb)) := grown_trans (grown_alloc (grown_refl _ _) _) hg; have HX1 := hid ((Bx.new w 40 _ _ _ _).kept hg (by simpa using hn0)); have HR1 := hid hr; have hz1 := hg.size; have hn1 : ¬ w1.heap.size = rb := (by simp at hz1; omega); have hn2 : ¬ w.heap.size = w1.heap.size := (by simp at hz1; omega); clear hg hr)
    | (go_at_call 22; refine (HT.out _ (HR1.out.alloc _)).mono ?_; rintro e w2 ⟨rfl, hg, hr⟩; have HG2 : Hid (w.grownBy w2 (some rb)) := grown_trans (grown_alloc HG1.out _) hg; have hX2 := (HX1.out.alloc _).kept hg (by simpa using hn0); have HX2 := hid hX2; have hI2 := (Bx.new w1 40 _ _ _ _).kept hg (by simpa using hn1); have HI2 := hid hI2; have HR2 := hid hr; obtain ⟨il, ic0, ic1, ic2, ic3, if0, if1, if2, if3⟩ := hI2; clear hg hr hX2)
    | (go_at_call 39; refine (HM.out _ (HR2.out.put (by simpa using hn1))).mono ?_; rintro e w3 ⟨rfl, hg⟩; have HGz : Hid (w.grownBy w3 (some rb)) := grown_trans (grown_put HG2.out (by simp at hz1; simp; omega)) hg; clear hg))
  exact ⟨rfl, rfl, HGz.out⟩

set_option maxHeartbeats 1600000 in
theorem item_bad3 (hcl : CloneOk) (rb : Nat) (l l1 l2 l3 nm : List UInt8) (k n : Int) (w : World) (h : Rdr w rb l) (hl : l.length ≤ 1000000000000000) (h1 : pByte l = some (k, l1)) (h2 : pText l1 = some (nm, l2)) (h3 : pNum l2 = some (n, l3)) (h4 : pNum l3 = none) :
    Calls Try.prog 25 #[.pointer (some ⟨rb, 0, none⟩)] w fun e w' => e = .panicked shortP ∧ w.grownBy w' (some rb) := by
  have y1 := (pByte_lo h1).2.2
  have y2 := pText_len h2
  have y3 := pNum_len h3
  have HB : Hid (∀ W, Rdr W rb l → Calls Try.prog 24 #[.pointer (some ⟨rb, 0, none⟩)] W fun e w' => e = .returned (.int .i64 k) ∧ W.grownBy w' (some rb) ∧ Rdr w' rb l1) := fun W hW => (Byte_any rb l W hW hl).mono fun e w' h => h.of_some h1
  have HT : Hid (∀ W, Rdr W rb l1 → Calls Try.prog 22 #[.pointer (some ⟨rb, 0, none⟩)] W fun e w' => e = .returned (.string (strOf nm)) ∧ W.grownBy w' (some rb) ∧ Rdr w' rb l2) := fun W hW => (Text_any hcl rb l1 W hW (by omega)).mono fun e w' h => h.of_some h2
  have HM : Hid (∀ W, Rdr W rb l2 → Calls Try.prog 39 #[.pointer (some ⟨rb, 0, none⟩)] W fun e w' => e = .returned (.int .i64 n) ∧ W.grownBy w' (some rb) ∧ Rdr w' rb l3) := fun W hW => (Number_any rb l2 W hW (by omega)).mono fun e w' h => h.of_some h3
  have HA : Hid (∀ W, Rdr W rb l3 → Calls Try.prog 39 #[.pointer (some ⟨rb, 0, none⟩)] W fun e w' => e = .panicked shortP ∧ W.grownBy w' (some rb)) := fun W hW => (Number_any rb l3 W hW (by omega)).mono fun e w' h => h.of_none h4
  have HR := hid h
  have hlt := h.lt
  have hn0 : ¬ w.heap.size = rb := by omega
  clear h h1 h2 h3 h4 y1 y2 y3
  go_enter Try.func25, Try.ntmps25
  go_wp2_with (first
    | (go_at_call 24; refine (HB.out _ (HR.out.alloc _)).mono ?_; rintro e w1 ⟨rfl, hg, hr⟩; have HG1 : Hid (w.grownBy w1 (some rb)) := grown_trans (grown_alloc (grown_refl _ _) _) hg; have HX1 := hid ((Bx.new w 40 _ _ _ _).kept hg (by simpa using hn0)); have HR1 := hid hr; have hz1 := hg.size; have hn1 : ¬ w1.heap.size = rb := (by simp at hz1; omega); have hn2 : ¬ w.heap.size = w1.heap.size := (by simp at hz1; omega); clear hg hr)
    | (go_at_call 22; refine (HT.out _ (HR1.out.alloc _)).mono ?_; rintro e w2 ⟨rfl, hg, hr⟩; have HG2 : Hid (w.grownBy w2 (some rb)) := grown_trans (grown_alloc HG1.out _) hg; have hX2 := (HX1.out.alloc _).kept hg (by simpa using hn0); have HX2 := hid hX2; have hI2 := (Bx.new w1 40 _ _ _ _).kept hg (by simpa using hn1); have HI2 := hid hI2; have HR2 := hid hr; obtain ⟨il, ic0, ic1, ic2, ic3, if0, if1, if2, if3⟩ := hI2; clear hg hr hX2)
    | (go_at_call 39; refine (HM.out _ (HR2.out.put (by simpa using hn1))).mono ?_; rintro e w3 ⟨rfl, hg, hr⟩; have HG3 : Hid (w.grownBy w3 (some rb)) := grown_trans (grown_put HG2.out (by simp at hz1; simp; omega)) hg; have HX3 := hid ((HX2.out.far (by simpa using hn2)).kept hg (by simpa using hn0)); have hI3 := (HI2.out.set3 _).kept hg (by simpa using hn1); have HI3 := hid hI3; have HR3 := hid hr; clear hg hr il ic0 ic1 ic2 ic3 if0 if1 if2 if3; obtain ⟨il, ic0, ic1, ic2, ic3, if0, if1, if2, if3⟩ := hI3)
    | (go_at_call 39; refine (HA.out _ (HR3.out.put (by simpa using hn1))).mono ?_; rintro e w4 ⟨rfl, hg⟩; have HGz : Hid (w.grownBy w4 (some rb)) := grown_trans (grown_put HG3.out (by simp at hz1; simp; omega)) hg; clear hg))
  exact ⟨rfl, rfl, HGz.out⟩

theorem item_any (hcl : CloneOk) (rb : Nat) (l : List UInt8) (w : World) (h : Rdr w rb l) (hl : l.length ≤ 1000000000000000) :
    Calls Try.prog 25 #[.pointer (some ⟨rb, 0, none⟩)] w fun e w' => REnd rb w (pItem l) itV e w' := by
  unfold pItem
  cases h1 : pByte l with
  | none => exact (item_bad0 rb l w h hl h1).mono fun e w' q => ⟨q.2, Or.inl ⟨rfl, q.1⟩⟩
  | some a =>
    cases h2 : pText a.2 with
    | none => exact (item_bad1 hcl rb l a.2 a.1 w h hl h1 h2).mono fun e w' q => ⟨q.2, Or.inl ⟨by simp [h2], q.1⟩⟩
    | some b =>
      cases h3 : pNum b.2 with
      | none => exact (item_bad2 hcl rb l a.2 b.2 b.1 a.1 w h hl h1 h2 h3).mono fun e w' q => ⟨q.2, Or.inl ⟨by simp [h2, h3], q.1⟩⟩
      | some c =>
        cases h4 : pNum c.2 with
        | none => exact (item_bad3 hcl rb l a.2 b.2 c.2 b.1 a.1 c.1 w h hl h1 h2 h3 h4).mono fun e w' q => ⟨q.2, Or.inl ⟨by simp [h2, h3, h4], q.1⟩⟩
        | some d => exact (item_ok hcl rb l a.2 b.2 c.2 d.2 b.1 a.1 c.1 d.1 w h hl h1 h2 h3 h4).mono fun e w' q => ⟨q.2.1, Or.inr ⟨_, _, by simp [h2, h3, h4], q.1, q.2.2⟩⟩

end Go.Proofs.Ytidhbgidkgopfaa
