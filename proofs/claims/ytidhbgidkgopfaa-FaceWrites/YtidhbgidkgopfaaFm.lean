/-
  The program's reader: bytes are taken, or too few are a panic.
-/
import Derived.Test.YtidhbgidkgopfaaFl
namespace Go.Proofs.Ytidhbgidkgopfaa
open Go.RowKit Go.Shelf
set_option maxRecDepth 100000

def shortP : List PanicEntry := [{ v := .iface 9 (.string ⟨#[116, 111, 111, 32, 102, 101, 119, 32, 98, 121, 116, 101, 115]⟩), recovered := false }]
structure Rdr (w : World) (rb : Nat) (l : List UInt8) : Prop where
  lt : rb < w.heap.size
  c0 : w.cell? ⟨rb, 0, none⟩ = some (.string (strOf l))
  f0 : w.frozen? ⟨rb, 0, none⟩ = false
theorem Rdr.kept {w w' : World} {rb : Nat} {l : List UInt8} {r : Option Nat} (h : Rdr w rb l) (hg : w.grownBy w' r) (hr : some rb ≠ r) : Rdr w' rb l :=
  have hb := hg.block rb h.lt hr
  ⟨Nat.lt_of_lt_of_le h.lt hg.size, (World.cell?_of_block (a := ⟨rb, 0, none⟩) hb).trans h.c0, (World.frozen?_of_block (a := ⟨rb, 0, none⟩) hb).trans h.f0⟩
theorem Rdr.set {w : World} {rb : Nat} {l l' : List UInt8} {x : ByteArray} (h : Rdr w rb l) (hx : x = strOf l') : Rdr (w.setCell ⟨rb, 0, none⟩ (.string x)) rb l' :=
  ⟨by simpa using h.lt, by rw [hx]; exact World.cell?_setCell_same _ _ _ h.c0, by simpa using h.f0⟩
/- how a reader's call ends -/
def REnd {α : Type} (rb : Nat) (w : World) (r : Option (α × List UInt8)) (rep : α → Value) (e : Ending) (w' : World) : Prop :=
  w.grownBy w' (some rb) ∧ ((r = none ∧ e = .panicked shortP) ∨ ∃ x l, r = some (x, l) ∧ e = .returned (rep x) ∧ Rdr w' rb l)
def pTake (n : Nat) (l : List UInt8) : Option (List UInt8 × List UInt8) := if l.length < n then none else some (l.take n, l.drop n)
def strV (l : List UInt8) : Value := .string (strOf l)
def intV (n : Int) : Value := .int .i64 n

set_option maxHeartbeats 800000 in
theorem take_any (rb n : Nat) (l : List UInt8) (w : World) (h : Rdr w rb l) (_hl : l.length ≤ 1000000000000000) (hn : n ≤ 255) :
    Calls Try.prog 38 #[.pointer (some ⟨rb, 0, none⟩), .int .i64 n] w fun e w' => REnd rb w (pTake n l) strV e w' := by
  have HN := hid h
  obtain ⟨hlt, c0, f0⟩ := h
  have hz := strOf_size l
  by_cases hc : l.length < n
  · have HR : Hid (pTake n l = none) := if_pos hc
    go_enter Try.func38, Try.ntmps38
    go_wp2_with fail
    exact ⟨rfl, grown_refl _ _, Or.inl ⟨HR.out, rfl⟩⟩
  · have HR : Hid (pTake n l = some (l.take n, l.drop n)) := if_neg hc
    go_enter Try.func38, Try.ntmps38
    go_wp2_with fail
    go_returns
    refine ⟨grown_set (grown_refl _ _), .inr ⟨_, _, HR.out, ?_, HN.out.set ?_⟩⟩
    · rw [strOf_front]; rfl
    · have := strOf_tail l n (by omega)
      rwa [strOf_size] at this

def pByte (l : List UInt8) : Option (Int × List UInt8) := (pTake 1 l).map (fun q => ((nByte (q.1, false)).1, q.2))

set_option maxHeartbeats 800000 in
theorem Byte_any (rb : Nat) (l : List UInt8) (w : World) (h : Rdr w rb l) (hl : l.length ≤ 1000000000000000) :
    Calls Try.prog 24 #[.pointer (some ⟨rb, 0, none⟩)] w fun e w' => REnd rb w (pByte l) intV e w' := by
  have HC := hid (take_any rb 1 l w h hl (by omega))
  cases l with
  | nil =>
    have HR : Hid (pTake 1 ([] : List UInt8) = none) := rfl
    have HC : Hid (Calls Try.prog 38 #[.pointer (some ⟨rb, 0, none⟩), .int .i64 1] w fun e w' => e = .panicked shortP ∧ w.grownBy w' (some rb)) := HC.out.mono fun e w' h => by
      obtain ⟨hg, ⟨_, he⟩ | ⟨x, l', hr, _⟩⟩ := h
      · exact ⟨he, hg⟩
      · rw [HR.out] at hr; cases hr
    clear h
    go_enter Try.func24, Try.ntmps24
    go_wp2_with (go_at_call 38; refine HC.out.mono ?_; rintro e w' ⟨rfl, hg⟩; have HG := hid hg; clear hg)
    exact ⟨rfl, HG.out, Or.inl ⟨rfl, rfl⟩⟩
  | cons c r =>
    have HR : Hid (pTake 1 (c :: r) = some ([c], r)) := rfl
    have HC : Hid (Calls Try.prog 38 #[.pointer (some ⟨rb, 0, none⟩), .int .i64 1] w fun e w' => e = .returned (.string (strOf [c])) ∧ w.grownBy w' (some rb) ∧ Rdr w' rb r) := HC.out.mono fun e w' h => by
      obtain ⟨hg, ⟨hr, _⟩ | ⟨x, l', hr, he, h'⟩⟩ := h
      · rw [HR.out] at hr; cases hr
      · rw [HR.out] at hr; cases hr; exact ⟨he, hg, h'⟩
    have Hi := hid (strOf_head c [])
    have hz : (strOf [c]).size = 1 := by rw [strOf_size]; rfl
    obtain ⟨s, hs⟩ : ∃ s, s = strOf [c] := ⟨_, rfl⟩
    rw [← hs] at HC hz
    have Hi : Hid (∀ h : 0 < s.size, s[0] = c) := by subst hs; exact Hi
    clear h hs
    go_enter Try.func24, Try.ntmps24
    go_wp2_with (go_at_call 38; refine HC.out.mono ?_; rintro e w' ⟨rfl, hg, hr⟩; have HG := hid hg; have HD := hid hr; clear hg hr)
    go_returns
    refine ⟨HG.out, .inr ⟨(c.toNat : Int), r, rfl, ?_, HD.out⟩⟩
    rw [Hi.out, u8_wrap]
    rfl

end Go.Proofs.Ytidhbgidkgopfaa
