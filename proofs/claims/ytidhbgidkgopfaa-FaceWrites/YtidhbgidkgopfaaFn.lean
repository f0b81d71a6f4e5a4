/-
  The program's reader: texts. What strings.Clone does is a premise here.
-/
import Derived.Test.YtidhbgidkgopfaaFm
namespace Go.Proofs.Ytidhbgidkgopfaa
open Go.RowKit Go.Shelf
set_option maxRecDepth 100000

def CloneOk : Prop := ∀ (s : ByteArray) (W : World), s.size ≤ 255 → Calls Try.prog 37 #[.string s] W fun e w' => e = .returned (.string s) ∧ Below W.heap.size W w'
theorem REnd.of_none {α : Type} {rb : Nat} {w w' : World} {r : Option (α × List UInt8)} {rep : α → Value} {e : Ending} (h : REnd rb w r rep e w') (hr : r = none) : e = .panicked shortP ∧ w.grownBy w' (some rb) := by
  obtain ⟨hg, ⟨_, he⟩ | ⟨x, l', hr', _⟩⟩ := h
  · exact ⟨he, hg⟩
  · rw [hr] at hr'; cases hr'
theorem REnd.of_some {α : Type} {rb : Nat} {w w' : World} {r : Option (α × List UInt8)} {rep : α → Value} {e : Ending} {x : α} {l : List UInt8} (h : REnd rb w r rep e w') (hr : r = some (x, l)) : e = .returned (rep x) ∧ w.grownBy w' (some rb) ∧ Rdr w' rb l := by
  obtain ⟨hg, ⟨hr', _⟩ | ⟨x', l', hr', he, h'⟩⟩ := h
  · rw [hr] at hr'; cases hr'
  · rw [hr] at hr'; cases hr'; exact ⟨he, hg, h'⟩
theorem grown_below {w w' : World} (r : Option Nat) (h : Below w.heap.size w w') : w.grownBy w' r := ⟨h.os, h.tape, h.output, h.size, fun k hk _ => h.block k hk⟩
theorem Rdr.below {w w' : World} {rb : Nat} {l : List UInt8} (h : Rdr w rb l) (hb : Below w.heap.size w w') : Rdr w' rb l := h.kept (grown_below none hb) (by simp)
theorem pTake_len {n : Nat} {l x r : List UInt8} (h : pTake n l = some (x, r)) : x.length = n ∧ l = x ++ r := by
  unfold pTake at h
  split at h
  · cases h
  · cases h
    exact ⟨by rw [List.length_take]; omega, (List.take_append_drop n l).symm⟩
theorem pByte_lo {l r : List UInt8} {n : Int} (h : pByte l = some (n, r)) : 0 ≤ n ∧ n ≤ 255 ∧ r.length ≤ l.length := by
  unfold pByte at h
  cases ht : pTake 1 l with
  | none => rw [ht] at h; cases h
  | some q =>
    obtain ⟨x, y⟩ := q
    rw [ht] at h
    cases h
    have h1 := nByte_lo (x, false)
    have h2 := (pTake_len ht).2
    refine ⟨h1.1, h1.2, ?_⟩
    show y.length ≤ l.length
    rw [h2, List.length_append]; omega
def pText (l : List UInt8) : Option (List UInt8 × List UInt8) := (pByte l).bind (fun q => pTake q.1.toNat q.2)

set_option maxHeartbeats 800000 in
theorem Text_any (hcl : CloneOk) (rb : Nat) (l : List UInt8) (w : World) (h : Rdr w rb l) (hl : l.length ≤ 1000000000000000) :
    Calls Try.prog 22 #[.pointer (some ⟨rb, 0, none⟩)] w fun e w' => REnd rb w (pText l) strV e w' := by
  have HB := hid (Byte_any rb l w h hl)
  cases hB : pByte l with
  | none =>
    have HC := hid (HB.out.mono fun e w' h => h.of_none hB)
    have HR : Hid (pText l = none) := by show pText l = none; unfold pText; rw [hB]; rfl
    clear h HB
    go_enter Try.func22, Try.ntmps22
    go_wp2_with (go_at_call 24; refine HC.out.mono ?_; rintro e w' ⟨rfl, hg⟩; have HG := hid hg; clear hg)
    exact ⟨rfl, HG.out, Or.inl ⟨HR.out, rfl⟩⟩
  | some q =>
    obtain ⟨n, r⟩ := q
    obtain ⟨h0, h1, h2⟩ := pByte_lo hB
    obtain ⟨k, rfl⟩ : ∃ k : Nat, n = k := ⟨n.toNat, by omega⟩
    have HC : Hid (Calls Try.prog 24 #[.pointer (some ⟨rb, 0, none⟩)] w fun e w' => e = .returned (.int .i64 k) ∧ w.grownBy w' (some rb) ∧ Rdr w' rb r) := HB.out.mono fun e w' h => h.of_some hB
    have HE : Hid (pText l = pTake k r) := by show pText l = _; unfold pText; rw [hB]; rfl
    have HT : Hid (∀ W, Rdr W rb r → Calls Try.prog 38 #[.pointer (some ⟨rb, 0, none⟩), .int .i64 k] W fun e w' => REnd rb W (pTake k r) strV e w') := fun W hW => take_any rb k r W hW (by omega) (by omega)
    clear h HB hB
    cases hT : pTake k r with
    | none =>
      have HT : Hid (∀ W, Rdr W rb r → Calls Try.prog 38 #[.pointer (some ⟨rb, 0, none⟩), .int .i64 k] W fun e w' => e = .panicked shortP ∧ W.grownBy w' (some rb)) := fun W hW => (HT.out W hW).mono fun e w' h => h.of_none hT
      have HR : Hid (pText l = none) := HE.out.trans hT
      clear hT
      go_enter Try.func22, Try.ntmps22
      go_wp2_with (first
        | (go_at_call 24; refine HC.out.mono ?_; rintro e w1 ⟨rfl, hg, hr⟩; have HG := hid hg; have HD := hid hr; clear hg hr)
        | (go_at_call 38; refine (HT.out _ HD.out).mono ?_; rintro e w2 ⟨rfl, hg⟩; have HG2 := hid hg; clear hg))
      exact ⟨rfl, grown_trans HG.out HG2.out, Or.inl ⟨HR.out, rfl⟩⟩
    | some q =>
      obtain ⟨x, y⟩ := q
      have HT : Hid (∀ W, Rdr W rb r → Calls Try.prog 38 #[.pointer (some ⟨rb, 0, none⟩), .int .i64 k] W fun e w' => e = .returned (.string (strOf x)) ∧ W.grownBy w' (some rb) ∧ Rdr w' rb y) := fun W hW => (HT.out W hW).mono fun e w' h => h.of_some hT
      have HR : Hid (pText l = some (x, y)) := HE.out.trans hT
      have hx := (pTake_len hT).1
      have HL : Hid (∀ W, Calls Try.prog 37 #[.string (strOf x)] W fun e w' => e = .returned (.string (strOf x)) ∧ Below W.heap.size W w') := fun W => hcl _ W (by rw [strOf_size]; omega)
      clear hT hx
      go_enter Try.func22, Try.ntmps22
      go_wp2_with (first
        | (go_at_call 24; refine HC.out.mono ?_; rintro e w1 ⟨rfl, hg, hr⟩; have HG := hid hg; have HD := hid hr; clear hg hr)
        | (go_at_call 38; refine (HT.out _ HD.out).mono ?_; rintro e w2 ⟨rfl, hg, hr⟩; have HG2 := hid hg; have HD2 := hid hr; clear hg hr)
        | (go_at_call 37; refine (HL.out _).mono ?_; rintro e w3 ⟨rfl, hb⟩; have HB3 := hid hb; clear hb))
      go_returns
      exact ⟨grown_trans (grown_trans HG.out HG2.out) (grown_below _ HB3.out), Or.inr ⟨x, y, HR.out, rfl, HD2.out.below HB3.out⟩⟩

end Go.Proofs.Ytidhbgidkgopfaa
