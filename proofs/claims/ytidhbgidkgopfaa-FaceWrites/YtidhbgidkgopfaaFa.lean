/-
  The program's look at a name, and at an item.
-/
import Derived.Test.YtidhbgidkgopfaaLeafb
import Derived.Test.YtidhbgidkgopfaaFp
import Derived.Shelf.Abstract
import Derived.Handy
namespace Go.Proofs.Ytidhbgidkgopfaa
open Go.RowKit Go.Shelf
set_option maxRecDepth 100000

theorem hid {p : Prop} (h : p) : Hid p := h
theorem bcell {W w1 : World} (hb : Below W.heap.size W w1) : (∀ b o, b < W.heap.size → w1.cell? ⟨b, o, none⟩ = W.cell? ⟨b, o, none⟩) ∧ (∀ b o, b < W.heap.size → w1.frozen? ⟨b, o, none⟩ = W.frozen? ⟨b, o, none⟩) :=
  ⟨fun b o h => hb.cell (p := ⟨b, o, none⟩) h, fun b o h => hb.frozen (p := ⟨b, o, none⟩) h⟩

set_option maxHeartbeats 400000 in
theorem isToken_word (s : ByteArray) (w : World) (hs : s.size ≤ maxLen) :
    Calls Try.prog 42 #[.agg #[.int .i64 1, .int .i64 0, .string s]] w fun e w' => e = .returned (.bool (nameOk s)) ∧ Below w.heap.size w w' := by
  go_enter Try.func42, Try.ntmps42
  go_wp2_with (go_at_call 43; refine (isName_any s _ hs).mono ?_; rintro e w' ⟨rfl, rfl⟩)
  go_ret
  exact ⟨rfl, (Below.refl _ _).alloc (Nat.le_refl _) _⟩

set_option maxHeartbeats 400000 in
theorem Check_word_yes (s : ByteArray) (b : Nat) (w : World) (hs : s.size ≤ maxLen) (hb : b < w.heap.size) (h0 : w.cell? ⟨b, 0, none⟩ = some (.int .i64 1)) (h1 : w.cell? ⟨b, 1, none⟩ = some (.int .i64 0)) (h2 : w.cell? ⟨b, 2, none⟩ = some (.string s)) (hn : nameOk s = true) :
    Calls Try.prog 40 #[.slice (some ⟨b, 0, none⟩) 1 1] w fun e w' => e = .returned (.int .i64 0) ∧ Below w.heap.size w w' := by
  have H0 := hid h0
  have H1 := hid h1
  have H2 := hid h2
  have HC : Hid (∀ W, Calls Try.prog 42 #[.agg #[.int .i64 1, .int .i64 0, .string s]] W fun e w' => e = .returned (.bool true) ∧ Below W.heap.size W w') := fun W => by
    have := isToken_word s W hs
    rw [hn] at this
    exact this
  clear h0 h1 h2 hn
  go_enter Try.func40, Try.ntmps40
  go_wp2_with fail
  go_loopw [9, 4] (fun i _ wr => ∃ k : Nat, k ≤ 1 ∧ i = .int .i64 k ∧ Below w.heap.size w wr) (fun i _ _ => 1 - (intOf i).toNat)
  case atStart => exact ⟨0, Nat.zero_le _, rfl, Below.refl _ _⟩
  case round =>
    obtain ⟨k, hk, rfl, hbl⟩ := hrel
    by_cases hlt : k < 1
    · obtain rfl : k = 0 := by omega
      have h0 := (hbl.cell (p := ⟨b, 0, none⟩) hb).trans H0.out
      have h1 := (hbl.cell (p := ⟨b, 1, none⟩) hb).trans H1.out
      have h2 := (hbl.cell (p := ⟨b, 2, none⟩) hb).trans H2.out
      have hb' : b < wr.heap.size := Nat.lt_of_lt_of_le hb hbl.size
      go_wp2_with fail
      go_roundw
      case rel => exact ⟨1, by omega, rfl, hbl.alloc hbl.size _⟩
      case measure => simp [intOf]
    · go_wp2_with fail
      go_loopw [24, 6] (fun i _ wr => ∃ k : Nat, k ≤ 1 ∧ i = .int .i64 k ∧ Hid (k ≤ 2) ∧ Below w.heap.size w wr) (fun i _ _ => 1 - (intOf i).toNat)
      case atStart => exact ⟨0, Nat.zero_le _, rfl, (by decide : 0 ≤ 2), hbl⟩
      case round =>
        obtain ⟨k, hk, rfl, -, hb1⟩ := hrel
        by_cases hlt : k < 1
        · obtain rfl : k = 0 := by omega
          have h0 := (hb1.cell (p := ⟨b, 0, none⟩) hb).trans H0.out
          have h1 := (hb1.cell (p := ⟨b, 1, none⟩) hb).trans H1.out
          have h2 := (hb1.cell (p := ⟨b, 2, none⟩) hb).trans H2.out
          have hb' : b < wr.heap.size := Nat.lt_of_lt_of_le hb hb1.size
          go_wp2_with (go_at_call 42; refine (HC.out _).mono ?_; rintro e w' ⟨rfl, hb2⟩)
          go_roundw
          case rel => exact ⟨1, by omega, rfl, (by decide : 1 ≤ 2), (hb1.alloc hb1.size _).trans (hb2.mono (by have := hb1.size; simp; omega))⟩
          case measure => simp [intOf]
        · obtain rfl : k = 1 := by omega
          go_wp2_with fail
          go_ret
          exact ⟨rfl, hb1⟩

set_option maxHeartbeats 400000 in
theorem Check_word_no (s : ByteArray) (b : Nat) (w : World) (hs : s.size ≤ maxLen) (hb : b < w.heap.size) (h0 : w.cell? ⟨b, 0, none⟩ = some (.int .i64 1)) (h1 : w.cell? ⟨b, 1, none⟩ = some (.int .i64 0)) (h2 : w.cell? ⟨b, 2, none⟩ = some (.string s)) (hn : nameOk s = false) :
    Calls Try.prog 40 #[.slice (some ⟨b, 0, none⟩) 1 1] w fun e w' => e = .returned (.int .i64 1) ∧ Below w.heap.size w w' := by
  have H0 := hid h0
  have H1 := hid h1
  have H2 := hid h2
  have HC : Hid (∀ W, Calls Try.prog 42 #[.agg #[.int .i64 1, .int .i64 0, .string s]] W fun e w' => e = .returned (.bool false) ∧ Below W.heap.size W w') := fun W => by
    have := isToken_word s W hs
    rw [hn] at this
    exact this
  clear h0 h1 h2 hn
  go_enter Try.func40, Try.ntmps40
  go_wp2_with fail
  go_loopw [9, 4] (fun i _ wr => ∃ k : Nat, k ≤ 1 ∧ i = .int .i64 k ∧ Below w.heap.size w wr) (fun i _ _ => 1 - (intOf i).toNat)
  case atStart => exact ⟨0, Nat.zero_le _, rfl, Below.refl _ _⟩
  case round =>
    obtain ⟨k, hk, rfl, hbl⟩ := hrel
    by_cases hlt : k < 1
    · obtain rfl : k = 0 := by omega
      have h0 := (hbl.cell (p := ⟨b, 0, none⟩) hb).trans H0.out
      have h1 := (hbl.cell (p := ⟨b, 1, none⟩) hb).trans H1.out
      have h2 := (hbl.cell (p := ⟨b, 2, none⟩) hb).trans H2.out
      have hb' : b < wr.heap.size := Nat.lt_of_lt_of_le hb hbl.size
      go_wp2_with fail
      go_roundw
      case rel => exact ⟨1, by omega, rfl, hbl.alloc hbl.size _⟩
      case measure => simp [intOf]
    · go_wp2_with fail
      go_loopw [24, 6] (fun i _ wr => ∃ k : Nat, k ≤ 1 ∧ i = .int .i64 k ∧ k = 0 ∧ Below w.heap.size w wr) (fun i _ _ => 1 - (intOf i).toNat)
      case atStart => exact ⟨0, Nat.zero_le _, rfl, rfl, hbl⟩
      case round =>
        obtain ⟨k, hk, rfl, hk0, hb1⟩ := hrel
        subst hk0
        have h0 := (hb1.cell (p := ⟨b, 0, none⟩) hb).trans H0.out
        have h1 := (hb1.cell (p := ⟨b, 1, none⟩) hb).trans H1.out
        have h2 := (hb1.cell (p := ⟨b, 2, none⟩) hb).trans H2.out
        have hb' : b < wr.heap.size := Nat.lt_of_lt_of_le hb hb1.size
        go_wp2_with (go_at_call 42; refine (HC.out _).mono ?_; rintro e w' ⟨rfl, hb2⟩)
        go_ret
        exact ⟨rfl, (hb1.alloc hb1.size _).trans (hb2.mono (by have := hb1.size; simp; omega))⟩

theorem scopeName_any (s : ByteArray) (w : World) (hs : s.size ≤ maxLen) :
    Calls Try.prog 30 #[.string s] w fun e w' => e = .returned (.bool (nameOk s)) ∧ Below w.heap.size w w' := by
  cases hn : nameOk s with
  | true =>
    have HC := hid (Check_word_yes s w.heap.size (w.alloc (.cells #[.int .i64 1, .int .i64 0, .string s] 67)) hs (by simp) (by simp) (by simp) (by simp) hn)
    clear hn
    go_enter Try.func30, Try.ntmps30
    go_wp2_with fail
    refine HC.out.mono ?_
    rintro e w' ⟨rfl, hb⟩
    go_wp2_with fail
    go_ret
    exact ⟨rfl, ((Below.refl _ _).alloc (Nat.le_refl _) _).trans (hb.mono (by simp))⟩
  | false =>
    have HC := hid (Check_word_no s w.heap.size (w.alloc (.cells #[.int .i64 1, .int .i64 0, .string s] 67)) hs (by simp) (by simp) (by simp) (by simp) hn)
    clear hn
    go_enter Try.func30, Try.ntmps30
    go_wp2_with fail
    refine HC.out.mono ?_
    rintro e w' ⟨rfl, hb⟩
    go_wp2_with fail
    go_ret
    exact ⟨rfl, ((Below.refl _ _).alloc (Nat.le_refl _) _).trans (hb.mono (by simp))⟩

end Go.Proofs.Ytidhbgidkgopfaa
