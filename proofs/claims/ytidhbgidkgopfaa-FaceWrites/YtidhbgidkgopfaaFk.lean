/-
  The reference's nose: a byte.
-/
import Derived.Test.YtidhbgidkgopfaaFj
namespace Go.Proofs.Ytidhbgidkgopfaa
open Go.RowKit Go.Shelf
set_option maxRecDepth 100000

/- a string and a flag, in a block of its own -/
structure Nose (w : World) (nb : Nat) (st : List UInt8 × Bool) : Prop where
  lt : nb < w.heap.size
  c0 : w.cell? ⟨nb, 0, none⟩ = some (.string (strOf st.1))
  c1 : w.cell? ⟨nb, 1, none⟩ = some (.bool st.2)
  f0 : w.frozen? ⟨nb, 0, none⟩ = false
  f1 : w.frozen? ⟨nb, 1, none⟩ = false
def nByte : List UInt8 × Bool → Int × (List UInt8 × Bool)
  | ([], _) => (0, ([], true))
  | (c :: r, bad) => ((c.toNat : Int), (r, bad))
theorem Nose.kept {w w' : World} {nb : Nat} {st : List UInt8 × Bool} {r : Option Nat} (h : Nose w nb st) (hg : w.grownBy w' r) (hr : some nb ≠ r) : Nose w' nb st :=
  have hb := hg.block nb h.lt hr
  ⟨Nat.lt_of_lt_of_le h.lt hg.size, (World.cell?_of_block (a := ⟨nb, 0, none⟩) hb).trans h.c0, (World.cell?_of_block (a := ⟨nb, 1, none⟩) hb).trans h.c1, (World.frozen?_of_block (a := ⟨nb, 0, none⟩) hb).trans h.f0, (World.frozen?_of_block (a := ⟨nb, 1, none⟩) hb).trans h.f1⟩
theorem grown_refl (w : World) (r : Option Nat) : w.grownBy w r := ⟨rfl, rfl, rfl, Nat.le_refl _, fun _ _ _ => rfl⟩
theorem grown_set {w w' : World} {b o : Nat} {u : Value} (h : w.grownBy w' (some b)) : w.grownBy (w'.setCell ⟨b, o, none⟩ u) (some b) :=
  ⟨h.os, h.tape, h.output, by simpa using h.size, fun k hk hne => (Below.heap_setCell w' ⟨b, o, none⟩ u k (fun e => hne (by rw [e]))).trans (h.block k hk hne)⟩
theorem Nose.set0 {w : World} {nb : Nat} {st : List UInt8 × Bool} {l : List UInt8} {x : ByteArray} (h : Nose w nb st) (hx : x = strOf l) : Nose (w.setCell ⟨nb, 0, none⟩ (.string x)) nb (l, st.2) :=
  ⟨by simpa using h.lt, by rw [hx]; exact World.cell?_setCell_same _ _ _ h.c0, (World.cell?_setCell_other _ _ _ _ (by simp)).trans h.c1, by simpa using h.f0, by simpa using h.f1⟩
theorem Nose.set1 {w : World} {nb : Nat} {st : List UInt8 × Bool} {b : Bool} (h : Nose w nb st) : Nose (w.setCell ⟨nb, 1, none⟩ (.bool b)) nb (st.1, b) :=
  ⟨by simpa using h.lt, (World.cell?_setCell_other _ _ _ _ (by simp)).trans h.c0, World.cell?_setCell_same _ _ _ h.c1, by simpa using h.f0, by simpa using h.f1⟩
theorem extract_list (s : ByteArray) (a n : Nat) : (s.extract a (a + n)).data.toList = (s.data.toList.drop a).take n := by
  rw [ByteArray.data_extract, Array.toList_extract, List.extract_eq_take_drop, show a + n - a = n from by omega]
theorem strOf_tail (l : List UInt8) (a : Nat) (h : a ≤ l.length) : (strOf l).extract a (strOf l).size = strOf (l.drop a) := by
  rw [strOf_size, show l.length = a + (l.length - a) by omega, ← strOf_back ((strOf l).extract a _), extract_list, strOf_list, List.take_of_length_le (by simp)]
theorem strOf_front (l : List UInt8) (n : Nat) : (strOf l).extract 0 n = strOf (l.take n) := by
  have h := extract_list (strOf l) 0 n
  rw [Nat.zero_add] at h
  rw [← strOf_back ((strOf l).extract 0 n), h, strOf_list, List.drop_zero]
theorem strOf_head (c : UInt8) (r : List UInt8) (h : 0 < (strOf (c :: r)).size) : (strOf (c :: r))[0] = c := by simp [strOf, ByteArray.getElem_eq_getElem_data]
theorem u8_wrap (c : UInt8) : wrap64 (c.toNat : Int) = c.toNat := by have := c.toNat_lt; unfold wrap64; omega

set_option maxHeartbeats 800000 in
theorem noseByte_any (nb : Nat) (st : List UInt8 × Bool) (w : World) (h : Nose w nb st) (hl : st.1.length ≤ 1000000000000000) :
    Calls Try.prog 28 #[.pointer (some ⟨nb, 0, none⟩)] w fun e w' => e = .returned (.int .i64 (nByte st).1) ∧ Nose w' nb (nByte st).2 ∧ w.grownBy w' (some nb) := by
  obtain ⟨l, bad⟩ := st
  have HN := hid h
  obtain ⟨hlt, c0, c1, f0, f1⟩ := h
  cases l with
  | nil =>
    have e0 : strOf ([] : List UInt8) = ⟨#[]⟩ := rfl
    simp only [e0] at c0
    go_enter Try.func28, Try.ntmps28
    go_wp2_with fail
    go_returns
    exact ⟨rfl, HN.out.set1, grown_set (grown_refl _ _)⟩
  | cons c r =>
    have Hx := hid (strOf_tail (c :: r) 1 (by simp))
    have Hi := hid (strOf_head c r)
    have hz0 : (strOf (c :: r)).size = r.length + 1 := by rw [strOf_size]; rfl
    simp only at c0
    obtain ⟨s, hs⟩ : ∃ s, s = strOf (c :: r) := ⟨_, rfl⟩
    rw [← hs] at Hx c0 hz0
    have Hx : Hid (s.extract 1 (r.length + 1) = strOf r) := by rw [← hz0]; exact Hx
    have Hi : Hid (∀ h : 0 < s.size, s[0] = c) := by subst hs; exact Hi
    have hE := Lx.ne_empty s (by omega)
    simp only [List.length_cons] at hl
    clear hs
    go_enter Try.func28, Try.ntmps28
    go_wp2_with fail
    go_returns
    exact ⟨by rw [Hi.out, u8_wrap]; rfl, HN.out.set0 Hx.out, grown_set (grown_refl _ _)⟩

def nText (st : List UInt8 × Bool) : List UInt8 × (List UInt8 × Bool) :=
  if ((nByte st).2.1.length : Int) < (nByte st).1 then ([], ((nByte st).2.1, true)) else ((nByte st).2.1.take (nByte st).1.toNat, ((nByte st).2.1.drop (nByte st).1.toNat, (nByte st).2.2))
theorem nByte_lo (st : List UInt8 × Bool) : 0 ≤ (nByte st).1 ∧ (nByte st).1 ≤ 255 := by
  obtain ⟨l, bad⟩ := st
  cases l with
  | nil => exact ⟨Int.le_refl _, by show (0 : Int) ≤ 255; decide⟩
  | cons c r => have := c.toNat_lt; exact ⟨by show 0 ≤ (c.toNat : Int); omega, by show (c.toNat : Int) ≤ 255; omega⟩
theorem nByte_len (st : List UInt8 × Bool) : (nByte st).2.1.length ≤ st.1.length := by
  obtain ⟨l, bad⟩ := st
  cases l with
  | nil => exact Nat.le_refl _
  | cons c r => exact Nat.le_succ _
theorem grown_trans {a b c : World} {r : Option Nat} (h1 : a.grownBy b r) (h2 : b.grownBy c r) : a.grownBy c r := grown_two h1 h2 (fun _ e _ => e)

set_option maxHeartbeats 800000 in
theorem noseText_any (nb : Nat) (st : List UInt8 × Bool) (w : World) (h : Nose w nb st) (hl : st.1.length ≤ 1000000000000000) :
    Calls Try.prog 27 #[.pointer (some ⟨nb, 0, none⟩)] w fun e w' => e = .returned (.string (strOf (nText st).1)) ∧ Nose w' nb (nText st).2 ∧ w.grownBy w' (some nb) := by
  have HC := hid (noseByte_any nb st w h hl)
  have hlo := nByte_lo st
  have hln := nByte_len st
  obtain ⟨R, hR⟩ : ∃ R, R = nText st := ⟨_, rfl⟩
  rw [← hR]
  unfold nText at hR
  generalize nByte st = q at *
  obtain ⟨n, l, bad⟩ := q
  simp only at hlo hln hR
  obtain ⟨k, rfl⟩ : ∃ k : Nat, n = k := ⟨n.toNat, by omega⟩
  have HR := hid hR
  clear hR h
  go_enter Try.func27, Try.ntmps27
  go_wp2_with (go_at_call 28; refine HC.out.mono ?_; rintro e w' ⟨rfl, hn, hg⟩; have HN := hid hn; obtain ⟨hlt, c0, c1, f0, f1⟩ := hn; simp only at c0 c1; have hz : (strOf l).size = l.length := strOf_size l; have HG := hid hg; clear hg)
  all_goals go_returns
  · have hlt' : (l.length : Int) < k := by omega
    have e := HR.out
    rw [if_pos hlt'] at e
    subst e
    exact ⟨rfl, HN.out.set1, grown_set HG.out⟩
  · have hlt' : ¬ (l.length : Int) < k := by omega
    have e := HR.out
    rw [if_neg hlt'] at e
    subst e
    refine ⟨by simp only [Int.toNat_natCast]; rw [strOf_front]; rfl, HN.out.set0 ?_, grown_set HG.out⟩
    simp only [Int.toNat_natCast]
    have := strOf_tail l k (by omega)
    rwa [strOf_size] at this

end Go.Proofs.Ytidhbgidkgopfaa
