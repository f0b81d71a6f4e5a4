/-
  The plain mathematics of tokens: what a name, a sign, a number, a token, a list of tokens and a text of tokens are, said of lists of bytes, without the program.
-/
import Derived.RowKit
import Derived.Lib.Strings
import Derived.Test.YtndkhgakfodldaaGreatDoorProg
import Derived.WalkKit
import Derived.WalkSpells
import Derived.WalkLawsBesides
import Derived.Shelf.Small.Strs
import Derived.Shelf.Utf8.RuneCount
import Derived.Shelf.LaysM
import Derived.Shelf.Strconv.Clone
import Derived.Shelf.Strings.Search1
import Derived.Shelf.Strings.Search2
import Derived.Shelf.Strings.Search3
import Derived.Shelf.Strings.Count
import Derived.Shelf.Strings.Shaped
import Derived.Shelf.Strings.Split
import Derived.Shelf.Strings.SplitShaped
import Derived.Shelf.Unicode.Decode
import Derived.Shelf.Strings.RuneCount
import Derived.Shelf.Strings.Explode
import Derived.Shelf.Unicode.DecodeSlow
import Derived.Shelf.Unicode.DecodeAny
import Derived.Shelf.Slices.Turned
namespace Go.Proofs.YtndkhgakfodldaaGreatDoor
namespace Lx

def letB (c : UInt8) : Bool := decide (97 ≤ (c.toNat : Int)) && decide ((c.toNat : Int) ≤ 122)
def digB (c : UInt8) : Bool := decide (48 ≤ (c.toNat : Int)) && decide ((c.toNat : Int) ≤ 57)
def alnB (c : UInt8) : Bool := letB c || digB c
def headLet : List UInt8 → Bool
  | [] => false
  | c :: _ => letB c
def nameB (l : List UInt8) : Bool := headLet l && decide (l.length ≤ 8) && l.all alnB
def signs : List UInt8 := [123, 125, 40, 41, 91, 93, 44, 59, 61, 46, 43, 45, 42, 47, 37, 60, 33, 38, 124]
def signB (c : UInt8) : Bool := signs.contains c

theorem take_snoc (s : ByteArray) (k : Nat) (h : k < s.size) : s.data.toList.take (k + 1) = s.data.toList.take k ++ [s[k]] := by
  rw [List.take_succ_eq_append_getElem (by simpa using h)]; rfl
theorem len_toList (s : ByteArray) : s.data.toList.length = s.size := Array.length_toList
theorem ne_empty (s : ByteArray) (h : 0 < s.size) : s.toList.isEmpty = false := by
  rw [Lib.toList_data]
  cases hl : s.data.toList with
  | nil => have := len_toList s; rw [hl] at this; simp at this; omega
  | cons => rfl
theorem head_of (s : ByteArray) (h : 0 < s.size) : headLet s.data.toList = letB s[0] := by
  have := take_snoc s 0 h
  cases hl : s.data.toList with
  | nil => rw [hl] at this; simp at this
  | cons c r => rw [hl] at this; simp at this; simp [headLet, this]
theorem all_take_snoc (s : ByteArray) (k : Nat) (h : k < s.size) (p : UInt8 → Bool) : (s.data.toList.take (k + 1)).all p = ((s.data.toList.take k).all p && p s[k]) := by
  rw [take_snoc s k h]; simp
theorem all_of_take (s : ByteArray) (p : UInt8 → Bool) : (s.data.toList.take s.size).all p = s.data.toList.all p := by
  rw [List.take_of_length_le (by rw [len_toList]; exact Nat.le_refl _)]
theorem not_all (s : ByteArray) (k : Nat) (h : k < s.size) (p : UInt8 → Bool) (hp : p s[k] = false) : s.data.toList.all p = false := by
  have hx : s.data.toList[k]'(by rw [len_toList]; exact h) = s[k] := rfl
  rw [List.all_eq_false]
  refine ⟨s[k], ?_, by simp [hp]⟩
  rw [← hx]; exact List.getElem_mem _
theorem nameB_empty (s : ByteArray) (h : s.size = 0) : nameB s.data.toList = false := by
  have : s.data.toList = [] := List.eq_nil_of_length_eq_zero (by rw [len_toList]; exact h)
  rw [this]; rfl
theorem nameB_long (s : ByteArray) (h : 8 < s.size) : nameB s.data.toList = false := by
  unfold nameB; rw [len_toList, show decide (s.size ≤ 8) = false from by simp; omega]; simp
theorem nameB_head (s : ByteArray) (h : 0 < s.size) (hl : letB s[0] = false) : nameB s.data.toList = false := by
  unfold nameB; rw [head_of s h, hl]; simp
theorem nameB_rest (s : ByteArray) (h : 0 < s.size) (h8 : s.size ≤ 8) (hl : letB s[0] = true) : nameB s.data.toList = s.data.toList.all alnB := by
  unfold nameB; rw [head_of s h, hl, len_toList, show decide (s.size ≤ 8) = true from by simp; omega]; simp

/- How many letters and digits stand at the head of a list; at a place of a text. -/
def runL (l : List UInt8) : Nat := (l.takeWhile alnB).length
def runN (s : ByteArray) (a : Nat) : Nat := runL (s.data.toList.drop a)
theorem runL_at : ∀ (l : List UInt8) (k : Nat), (l.take k).all alnB = true → k ≤ l.length → (∀ h : k < l.length, alnB l[k] = false) → runL l = k
  | [], k, _, hk, _ => by simp at hk; subst hk; rfl
  | c :: l, 0, _, _, hs => by have := hs (by simp); simp at this; simp [runL, this]
  | c :: l, k + 1, ha, hk, hs => by
    simp only [List.take_succ_cons, List.all_cons, Bool.and_eq_true] at ha
    have ih := runL_at l k ha.2 (by simp at hk; omega) (fun h => by have := hs (by simp; omega); simpa using this)
    simp only [runL] at ih ⊢
    rw [List.takeWhile_cons, if_pos ha.1, List.length_cons, ih]
theorem drop_len (s : ByteArray) (a : Nat) : (s.data.toList.drop a).length = s.size - a := by rw [List.length_drop, len_toList]
theorem drop_get (s : ByteArray) (a k : Nat) (h : a + k < s.size) : (s.data.toList.drop a)[k]'(by rw [drop_len]; omega) = s[a + k] := by
  rw [List.getElem_drop]; rfl
theorem seg_snoc (s : ByteArray) (a k : Nat) (h : a + k < s.size) : ((s.data.toList.drop a).take (k + 1)).all alnB = (((s.data.toList.drop a).take k).all alnB && alnB s[a + k]) := by
  rw [List.take_succ_eq_append_getElem (by rw [drop_len]; omega), drop_get s a k h]; simp
theorem runN_end (s : ByteArray) (a k : Nat) (ha : ((s.data.toList.drop a).take k).all alnB = true) (h : a + k = s.size) : runN s a = k :=
  runL_at _ k ha (by rw [drop_len]; omega) (fun hk => by rw [drop_len] at hk; omega)
theorem runN_stop (s : ByteArray) (a k : Nat) (ha : ((s.data.toList.drop a).take k).all alnB = true) (h : a + k < s.size) (hc : alnB s[a + k] = false) : runN s a = k :=
  runL_at _ k ha (by rw [drop_len]; omega) (fun _ => by rw [drop_get s a k h]; exact hc)
def pieceN (s : ByteArray) (a : Nat) : Nat := if runN s a = 0 then 1 else runN s a
theorem seg_one (s : ByteArray) (a : Nat) (h : a < s.size) : ((s.data.toList.drop a).take 1).all alnB = alnB s[a] := by
  have := seg_snoc s a 0 (by omega)
  simpa using this
theorem pieceN_other (s : ByteArray) (a : Nat) (h : a < s.size) (hc : alnB s[a] = false) : pieceN s a = 1 := by
  have := runN_stop s a 0 (by simp) (by omega) (by simpa using hc)
  simp [pieceN, this]
theorem pieceN_of (s : ByteArray) (a k : Nat) (hk : 0 < k) (h : runN s a = k) : pieceN s a = k := by
  unfold pieceN; rw [h, if_neg (by omega)]
theorem runN_le (s : ByteArray) (a : Nat) : runN s a ≤ s.size - a := by
  have := (List.takeWhile_prefix alnB (l := s.data.toList.drop a)).length_le
  rw [drop_len] at this; exact this
theorem pieceN_pos (s : ByteArray) (a : Nat) : 0 < pieceN s a := by unfold pieceN; split <;> omega
theorem pieceN_le (s : ByteArray) (a : Nat) (h : a < s.size) : a + pieceN s a ≤ s.size := by
  have := runN_le s a; unfold pieceN; split <;> omega

end Lx
end Go.Proofs.YtndkhgakfodldaaGreatDoor

namespace Go.Proofs.YtndkhgakfodldaaGreatDoor
open Go.RowKit

theorem ret_bool {a b : Bool} (h : a = b) : Ending.returned (.bool a) = .returned (.bool b) := by rw [h]
theorem ret_int {k : IntKind} {a b : Int} (h : a = b) : Ending.returned (.int k a) = .returned (.int k b) := by rw [h]

theorem isLetter_any (c : UInt8) (w : World) :
    Calls Tryz.prog 248 #[.int .u8 c.toNat] w fun e w' => e = .returned (.bool (Lx.letB c)) ∧ w' = w := by
  go_enter Tryz.func248, Tryz.ntmps248
  go_wp2
  all_goals go_ret
  · exact ⟨ret_bool (by simp [Lx.letB, *]), rfl⟩
  · exact ⟨ret_bool (by simp [Lx.letB]; omega), rfl⟩
theorem letter_any (c : UInt8) (w : World) :
    Calls Tryz.prog 117 #[.int .u8 c.toNat] w fun e w' => e = .returned (.bool (Lx.letB c)) ∧ w' = w := by
  go_enter Tryz.func117, Tryz.ntmps117
  go_wp2
  all_goals go_ret
  · exact ⟨ret_bool (by simp [Lx.letB, *]), rfl⟩
  · exact ⟨ret_bool (by simp [Lx.letB]; omega), rfl⟩
theorem isDigit_any (c : UInt8) (w : World) :
    Calls Tryz.prog 249 #[.int .u8 c.toNat] w fun e w' => e = .returned (.bool (Lx.digB c)) ∧ w' = w := by
  go_enter Tryz.func249, Tryz.ntmps249
  go_wp2
  all_goals go_ret
  · exact ⟨ret_bool (by simp [Lx.digB, *]), rfl⟩
  · exact ⟨ret_bool (by simp [Lx.digB]; omega), rfl⟩
theorem digit_any (c : UInt8) (w : World) :
    Calls Tryz.prog 118 #[.int .u8 c.toNat] w fun e w' => e = .returned (.bool (Lx.digB c)) ∧ w' = w := by
  go_enter Tryz.func118, Tryz.ntmps118
  go_wp2
  all_goals go_ret
  · exact ⟨ret_bool (by simp [Lx.digB, *]), rfl⟩
  · exact ⟨ret_bool (by simp [Lx.digB]; omega), rfl⟩
theorem within_any (n lo hi : Int) (w : World) :
    Calls Tryz.prog 63 #[.int .i64 n, .int .i64 lo, .int .i64 hi] w fun e w' => e = .returned (.bool (decide (lo ≤ n) && decide (n ≤ hi))) ∧ w' = w := by
  go_enter Tryz.func63, Tryz.ntmps63
  go_wp2
  all_goals go_ret
  · exact ⟨ret_bool (by simp [*]), rfl⟩
  · exact ⟨ret_bool (by simp; omega), rfl⟩

set_option maxRecDepth 100000 in
set_option maxHeartbeats 400000 in
theorem isName_any (s : ByteArray) (w : World) (hs : s.size ≤ maxLen) :
    Calls Tryz.prog 202 #[.string s] w fun e w' => e = .returned (.bool (Lx.nameB s.data.toList)) ∧ w' = w := by
  unfold maxLen at hs
  by_cases h0 : s.size = 0
  · have hE : s = ⟨#[]⟩ := ByteArray.ext (Array.eq_empty_of_size_eq_zero h0)
    have HN : Hid (Lx.nameB s.data.toList = false) := Lx.nameB_empty s h0
    subst hE
    clear h0
    go_enter Tryz.func202, Tryz.ntmps202
    go_wp2_with fail
    go_ret
    exact ⟨ret_bool HN.out.symm, rfl⟩
  have h1 : 0 < s.size := by omega
  have hne : s.toList.isEmpty = false := Lx.ne_empty s h1
  clear h0
  by_cases h8 : 8 < s.size
  · have HN : Hid (Lx.nameB s.data.toList = false) := Lx.nameB_long s h8
    go_enter Tryz.func202, Tryz.ntmps202
    go_wp2_with fail
    go_ret
    exact ⟨ret_bool HN.out.symm, rfl⟩
  by_cases hl : Lx.letB s[0] = true
  · have HN : Hid (Lx.nameB s.data.toList = s.data.toList.all Lx.alnB) := Lx.nameB_rest s h1 (by omega) hl
    go_enter Tryz.func202, Tryz.ntmps202
    go_wp2_with (go_at_call 248; refine (isLetter_any _ _).mono ?_; rintro e w' ⟨rfl, rfl⟩)
    go_loop [19, 3] (fun i _ => ∃ k : Nat, k ≤ s.size ∧ i = .int .i64 k ∧ (s.data.toList.take k).all Lx.alnB = true) (fun i _ => s.size - (intOf i).toNat)
    case atStart => exact ⟨0, Nat.zero_le _, rfl, rfl⟩
    case round =>
      obtain ⟨k, hk, rfl, hall⟩ := hrel
      have HA : Hid ((s.data.toList.take k).all Lx.alnB = true) := hall
      clear hall
      by_cases hlt : k < s.size
      · have hst := Lx.all_take_snoc s k hlt Lx.alnB
        have HS : Hid ((s.data.toList.take (k + 1)).all Lx.alnB = ((s.data.toList.take k).all Lx.alnB && Lx.alnB s[k])) := hst
        clear hst
        by_cases hc : Lx.letB s[k] = true
        · go_wp2_with (go_at_call 248; refine (isLetter_any _ _).mono ?_; rintro e w' ⟨rfl, rfl⟩)
          go_round
          case rel => exact ⟨k + 1, by omega, by go_num, by rw [HS.out, HA.out]; simp [Lx.alnB, hc]⟩
          case measure => simp [intOf]; omega
        · have hc' : Lx.letB s[k] = false := by simpa using hc
          clear hc
          by_cases hd : Lx.digB s[k] = true
          · go_wp2_with (first | (go_at_call 248; refine (isLetter_any _ _).mono ?_; rintro e w' ⟨rfl, rfl⟩) | (go_at_call 249; refine (isDigit_any _ _).mono ?_; rintro e w' ⟨rfl, rfl⟩))
            go_round
            case rel => exact ⟨k + 1, by omega, by go_num, by rw [HS.out, HA.out]; simp [Lx.alnB, hd]⟩
            case measure => simp [intOf]; omega
          · have hd' : Lx.digB s[k] = false := by simpa using hd
            clear hd
            have HF : Hid (s.data.toList.all Lx.alnB = false) := Lx.not_all s k hlt _ (by simp [Lx.alnB, hc', hd'])
            go_wp2_with (first | (go_at_call 248; refine (isLetter_any _ _).mono ?_; rintro e w' ⟨rfl, rfl⟩) | (go_at_call 249; refine (isDigit_any _ _).mono ?_; rintro e w' ⟨rfl, rfl⟩))
            go_ret
            exact ⟨ret_bool (by rw [HN.out, HF.out]), rfl⟩
      · obtain rfl : k = s.size := by omega
        go_wp2
        go_ret
        exact ⟨ret_bool (by rw [HN.out, ← Lx.all_of_take, HA.out]), rfl⟩
  · have hl' : Lx.letB s[0] = false := by simpa using hl
    clear hl
    have HN : Hid (Lx.nameB s.data.toList = false) := Lx.nameB_head s h1 hl'
    go_enter Tryz.func202, Tryz.ntmps202
    go_wp2_with (go_at_call 248; refine (isLetter_any _ _).mono ?_; rintro e w' ⟨rfl, rfl⟩)
    go_ret
    exact ⟨ret_bool HN.out.symm, rfl⟩

end Go.Proofs.YtndkhgakfodldaaGreatDoor

namespace Go.Proofs.YtndkhgakfodldaaGreatDoor
open Go.RowKit

set_option maxRecDepth 100000 in
set_option maxHeartbeats 400000 in
theorem IsName_any (s : ByteArray) (w : World) (hs : s.size ≤ maxLen) :
    Calls Tryz.prog 62 #[.string s] w fun e w' => e = .returned (.bool (Lx.nameB s.data.toList)) ∧ w' = w := by
  unfold maxLen at hs
  by_cases h1 : ¬ (0 < s.size ∧ s.size ≤ 8)
  · have HN : Hid (Lx.nameB s.data.toList = false) := by
      by_cases h0 : s.size = 0
      · exact Lx.nameB_empty s h0
      · exact Lx.nameB_long s (by omega)
    have hw : (decide (1 ≤ (s.size : Int)) && decide ((s.size : Int) ≤ 8)) = false := by simp; omega
    clear h1
    go_enter Tryz.func62, Tryz.ntmps62
    go_wp2_with (go_at_call 63; refine (within_any _ _ _ _).mono ?_; rintro e w' ⟨rfl, rfl⟩)
    go_ret
    exact ⟨ret_bool HN.out.symm, rfl⟩
  obtain ⟨h1, h8⟩ := Classical.not_not.1 h1
  have hw : (decide (1 ≤ (s.size : Int)) && decide ((s.size : Int) ≤ 8)) = true := by simp; omega
  by_cases hl : Lx.letB s[0] = true
  · have HN : Hid (Lx.nameB s.data.toList = s.data.toList.all Lx.alnB) := Lx.nameB_rest s h1 (by omega) hl
    go_enter Tryz.func62, Tryz.ntmps62
    go_wp2_with (first | (go_at_call 63; refine (within_any _ _ _ _).mono ?_; rintro e w' ⟨rfl, rfl⟩) | (go_at_call 117; refine (letter_any _ _).mono ?_; rintro e w' ⟨rfl, rfl⟩))
    go_loop [3] (fun i => ∃ k : Nat, k ≤ s.size ∧ i = .int .i64 k ∧ (s.data.toList.take k).all Lx.alnB = true) (fun i => s.size - (intOf i).toNat)
    case atStart => exact ⟨0, Nat.zero_le _, rfl, rfl⟩
    case round =>
      obtain ⟨k, hk, rfl, hall⟩ := hrel
      have HA : Hid ((s.data.toList.take k).all Lx.alnB = true) := hall
      clear hall
      by_cases hlt : k < s.size
      · have hst := Lx.all_take_snoc s k hlt Lx.alnB
        have HS : Hid ((s.data.toList.take (k + 1)).all Lx.alnB = ((s.data.toList.take k).all Lx.alnB && Lx.alnB s[k])) := hst
        clear hst
        by_cases hc : Lx.letB s[k] = true
        · go_wp2_with (go_at_call 117; refine (letter_any _ _).mono ?_; rintro e w' ⟨rfl, rfl⟩)
          go_round
          case rel => exact ⟨k + 1, by omega, by go_num, by rw [HS.out, HA.out]; simp [Lx.alnB, hc]⟩
          case measure => simp [intOf]; omega
        · have hc' : Lx.letB s[k] = false := by simpa using hc
          clear hc
          by_cases hd : Lx.digB s[k] = true
          · go_wp2_with (first | (go_at_call 117; refine (letter_any _ _).mono ?_; rintro e w' ⟨rfl, rfl⟩) | (go_at_call 118; refine (digit_any _ _).mono ?_; rintro e w' ⟨rfl, rfl⟩))
            go_round
            case rel => exact ⟨k + 1, by omega, by go_num, by rw [HS.out, HA.out]; simp [Lx.alnB, hd]⟩
            case measure => simp [intOf]; omega
          · have hd' : Lx.digB s[k] = false := by simpa using hd
            clear hd
            have HF : Hid (s.data.toList.all Lx.alnB = false) := Lx.not_all s k hlt _ (by simp [Lx.alnB, hc', hd'])
            go_wp2_with (first | (go_at_call 117; refine (letter_any _ _).mono ?_; rintro e w' ⟨rfl, rfl⟩) | (go_at_call 118; refine (digit_any _ _).mono ?_; rintro e w' ⟨rfl, rfl⟩))
            go_ret
            exact ⟨ret_bool (by rw [HN.out, HF.out]), rfl⟩
      · obtain rfl : k = s.size := by omega
        go_wp2
        go_ret
        exact ⟨ret_bool (by rw [HN.out, ← Lx.all_of_take, HA.out]), rfl⟩
  · have hl' : Lx.letB s[0] = false := by simpa using hl
    clear hl
    have HN : Hid (Lx.nameB s.data.toList = false) := Lx.nameB_head s h1 hl'
    go_enter Tryz.func62, Tryz.ntmps62
    go_wp2_with (first | (go_at_call 63; refine (within_any _ _ _ _).mono ?_; rintro e w' ⟨rfl, rfl⟩) | (go_at_call 117; refine (letter_any _ _).mono ?_; rintro e w' ⟨rfl, rfl⟩))
    go_ret
    exact ⟨ret_bool HN.out.symm, rfl⟩

def signsBA : ByteArray := ⟨#[123, 125, 40, 41, 91, 93, 44, 59, 61, 46, 43, 45, 42, 47, 37, 60, 33, 38, 124]⟩
set_option maxRecDepth 100000 in
set_option maxHeartbeats 400000 in
theorem pieceEnd_any (s : ByteArray) (a : Nat) (w : World) (hs : s.size ≤ maxLen) (ha : a < s.size) :
    Calls Tryz.prog 193 #[.string s, .int .i64 a] w fun e w' => e = .returned (.int .i64 ((a + Lx.pieceN s a : Nat) : Int)) ∧ w' = w := by
  unfold maxLen at hs
  by_cases hal : Lx.alnB s[a] = true
  · have key : ∀ w : World, Calls Tryz.prog 193 #[.string s, .int .i64 a] w fun e w' => e = .returned (.int .i64 ((a + Lx.pieceN s a : Nat) : Int)) ∧ w' = w := by
      intro w
      have H1 : Hid (((s.data.toList.drop a).take 1).all Lx.alnB = true) := by
        show ((s.data.toList.drop a).take 1).all Lx.alnB = true
        rw [Lx.seg_one s a ha]; exact hal
      have H2 : Hid (Lx.letB s[a] = true ∨ Lx.letB s[a] = false ∧ Lx.digB s[a] = true) := by
        show Lx.letB s[a] = true ∨ Lx.letB s[a] = false ∧ Lx.digB s[a] = true
        unfold Lx.alnB at hal
        cases h : Lx.letB s[a] with
        | true => exact Or.inl rfl
        | false => rw [h] at hal; exact Or.inr ⟨rfl, by simpa using hal⟩
      clear hal
      rcases H2.out with hl | ⟨hl, hd⟩
      all_goals
        go_enter Tryz.func193, Tryz.ntmps193
        go_wp2_with (first | (go_at_call 248; refine (isLetter_any _ _).mono ?_; rintro e w' ⟨rfl, rfl⟩) | (go_at_call 249; refine (isDigit_any _ _).mono ?_; rintro e w' ⟨rfl, rfl⟩))
        go_loop [5] (fun i => ∃ k : Nat, 0 < k ∧ a + k ≤ s.size ∧ i = .int .i64 ((a + k : Nat) : Int) ∧ ((s.data.toList.drop a).take k).all Lx.alnB = true) (fun i => s.size - (intOf i).toNat)
        case atStart => exact ⟨1, by omega, by omega, by go_num, H1.out⟩
        case round =>
          obtain ⟨k, hk0, hk, rfl, hall⟩ := hrel
          have HA : Hid (((s.data.toList.drop a).take k).all Lx.alnB = true) := hall
          clear hall hl H2
          try clear hd
          by_cases hlt : a + k < s.size
          · have HS : Hid (((s.data.toList.drop a).take (k + 1)).all Lx.alnB = (((s.data.toList.drop a).take k).all Lx.alnB && Lx.alnB s[a + k])) := Lx.seg_snoc s a k hlt
            by_cases hc : Lx.letB s[a + k] = true
            · go_wp2_with (first | (go_at_call 248; refine (isLetter_any _ _).mono ?_; rintro e w' ⟨rfl, rfl⟩) | (go_at_call 249; refine (isDigit_any _ _).mono ?_; rintro e w' ⟨rfl, rfl⟩))
              go_round
              case rel => exact ⟨k + 1, by omega, by omega, by go_num, by rw [HS.out, HA.out]; simp [Lx.alnB, hc]⟩
              case measure => simp [intOf]; omega
            · have hc' : Lx.letB s[a + k] = false := by simpa using hc
              clear hc
              by_cases hd : Lx.digB s[a + k] = true
              · go_wp2_with (first | (go_at_call 248; refine (isLetter_any _ _).mono ?_; rintro e w' ⟨rfl, rfl⟩) | (go_at_call 249; refine (isDigit_any _ _).mono ?_; rintro e w' ⟨rfl, rfl⟩))
                go_round
                case rel => exact ⟨k + 1, by omega, by omega, by go_num, by rw [HS.out, HA.out]; simp [Lx.alnB, hd]⟩
                case measure => simp [intOf]; omega
              · have hd' : Lx.digB s[a + k] = false := by simpa using hd
                clear hd
                have HF : Hid (Lx.pieceN s a = k) := Lx.pieceN_of s a k hk0 (Lx.runN_stop s a k HA.out hlt (by simp [Lx.alnB, hc', hd']))
                go_wp2_with (first | (go_at_call 248; refine (isLetter_any _ _).mono ?_; rintro e w' ⟨rfl, rfl⟩) | (go_at_call 249; refine (isDigit_any _ _).mono ?_; rintro e w' ⟨rfl, rfl⟩))
                go_ret
                exact ⟨ret_int (by rw [HF.out] <;> omega), rfl⟩
          · have HF : Hid (Lx.pieceN s a = k) := Lx.pieceN_of s a k hk0 (Lx.runN_end s a k HA.out (by omega))
            go_wp2_with fail
            go_ret
            exact ⟨ret_int (by rw [HF.out] <;> omega), rfl⟩
    exact key w
  · have hal' : Lx.alnB s[a] = false := by simpa using hal
    have HF : Hid (Lx.pieceN s a = 1) := Lx.pieceN_other s a ha hal'
    have hl : Lx.letB s[a] = false := by unfold Lx.alnB at hal'; simp at hal'; exact hal'.1
    have hd : Lx.digB s[a] = false := by unfold Lx.alnB at hal'; simp at hal'; exact hal'.2
    clear hal hal'
    go_enter Tryz.func193, Tryz.ntmps193
    go_wp2_with (first | (go_at_call 248; refine (isLetter_any _ _).mono ?_; rintro e w' ⟨rfl, rfl⟩) | (go_at_call 249; refine (isDigit_any _ _).mono ?_; rintro e w' ⟨rfl, rfl⟩))
    go_ret
    exact ⟨ret_int (by rw [HF.out] <;> omega), rfl⟩

end Go.Proofs.YtndkhgakfodldaaGreatDoor

namespace Go.Proofs
open Go.Shelf
def Tryz.lays137_ren : Go.Shelf.Ren := ⟨fun | 137 => 255 | 217 => 286 | 266 => 296 | n => n, fun | 9 => 9 | 5 => 5 | 3 => 3 | n => n, fun | n => n⟩
theorem Tryz.lays137 : Go.Proofs.Lays.n137 Tryz.prog Tryz.lays137_ren := {
  mixed := by kernel_rfl
  f137 := Tryz.func255.trans (congrArg some (by kernel_rfl))
  f217 := Tryz.func286.trans (congrArg some (by kernel_rfl))
  f266 := Tryz.func296.trans (congrArg some (by kernel_rfl))
  t3 := Tryz.underlying3
  a3 := Tryz.isAgg3
  z3 := Tryz.sizeOf3
  v3 := Tryz.zeroValue3
  t5 := Tryz.underlying5
  a5 := Tryz.isAgg5
  z5 := Tryz.sizeOf5
  v5 := Tryz.zeroValue5
  t9 := Tryz.underlying9
  a9 := Tryz.isAgg9
  z9 := Tryz.sizeOf9
  v9 := Tryz.zeroValue9 }
open Go.RowKit in
theorem Tryz.strings_IndexByte (s : ByteArray) (c : Int) (w : World) :
    Calls Tryz.prog 255 #[.string s, .int .u8 c] w fun e w' => e = .returned (.int .i64 (Lib.indexByte s.data.toList c.toNat.toUInt8)) ∧ w' = w := Any.strings_IndexByte Tryz.lays137 s c w
open Go.RowKit in
def Tryz.laysM316_ren : Go.Shelf.Ren := ⟨fun | 316 => 220 | n => n, fun | 9 => 9 | 3 => 3 | 4 => 4 | 37 => 140 | 0 => 0 | 127 => 323 | 5 => 5 | n => n, fun | n => n⟩
theorem Tryz.laysM316 : Go.Proofs.LaysM.n316 Tryz.prog Tryz.laysM316_ren := {
  mixed := by kernel_rfl
  f316 := Tryz.func220.trans (congrArg some (by kernel_rfl))
  t0 := Tryz.underlying0
  a0 := Tryz.isAgg0
  z0 := Tryz.sizeOf0
  v0 := Tryz.zeroValue0
  t3 := Tryz.underlying3
  a3 := Tryz.isAgg3
  z3 := Tryz.sizeOf3
  v3 := Tryz.zeroValue3
  t4 := Tryz.underlying4
  a4 := Tryz.isAgg4
  z4 := Tryz.sizeOf4
  v4 := Tryz.zeroValue4
  t9 := Tryz.underlying9
  a9 := Tryz.isAgg9
  z9 := Tryz.sizeOf9
  v9 := Tryz.zeroValue9
  t37 := Tryz.underlying140
  a37 := Tryz.isAgg140
  z37 := Tryz.sizeOf140
  v37 := Tryz.zeroValue140
  t127 := Tryz.underlying323
  a127 := Tryz.isAgg323
  z127 := Tryz.sizeOf323
  v127 := Tryz.zeroValue323
  t5 := Tryz.underlying5
  a5 := Tryz.isAgg5
  z5 := Tryz.sizeOf5
  v5 := Tryz.zeroValue5
  i0 := by kernel_rfl
  i3 := by kernel_rfl
  i4 := by kernel_rfl
  i5 := by kernel_rfl
  i9 := by kernel_rfl
  i37 := by kernel_rfl
  i127 := by kernel_rfl }
open Go.RowKit in
theorem Tryz.stringslite_Clone (s : ByteArray) (w : World) (hlim : s.size ≤ 281474976710656) :
    Calls Tryz.prog 220 #[.string s] w fun e w' => e = .returned (.string s) ∧ Below w.heap.size w w' := Any.stringslite_Clone Tryz.laysM316 s w hlim
open Go.RowKit Go.Lib in
def Tryz.lays143_ren : Go.Shelf.Ren := ⟨fun | 143 => 299 | 219 => 301 | 217 => 286 | 225 => 304 | 224 => 305 | 267 => 306 | 266 => 296 | 314 => 310 | n => n, fun | 9 => 9 | 3 => 3 | 4 => 4 | 5 => 5 | 46 => 225 | 146 => 342 | 51 => 341 | n => n, fun | 1 => 0 | n => n⟩
theorem Tryz.lays143 : Go.Proofs.Lays.n143 Tryz.prog Tryz.lays143_ren := {
  mixed := by kernel_rfl
  f143 := Tryz.func299.trans (congrArg some (by kernel_rfl))
  f217 := Tryz.func286.trans (congrArg some (by kernel_rfl))
  f219 := Tryz.func301.trans (congrArg some (by kernel_rfl))
  f224 := Tryz.func305.trans (congrArg some (by kernel_rfl))
  f225 := Tryz.func304.trans (congrArg some (by kernel_rfl))
  f266 := Tryz.func296.trans (congrArg some (by kernel_rfl))
  f267 := Tryz.func306.trans (congrArg some (by kernel_rfl))
  f314 := Tryz.func310.trans (congrArg some (by kernel_rfl))
  t3 := Tryz.underlying3
  a3 := Tryz.isAgg3
  z3 := Tryz.sizeOf3
  v3 := Tryz.zeroValue3
  t4 := Tryz.underlying4
  a4 := Tryz.isAgg4
  z4 := Tryz.sizeOf4
  v4 := Tryz.zeroValue4
  t5 := Tryz.underlying5
  a5 := Tryz.isAgg5
  z5 := Tryz.sizeOf5
  v5 := Tryz.zeroValue5
  t9 := Tryz.underlying9
  a9 := Tryz.isAgg9
  z9 := Tryz.sizeOf9
  v9 := Tryz.zeroValue9
  t46 := Tryz.underlying225
  a46 := Tryz.isAgg225
  z46 := Tryz.sizeOf225
  v46 := Tryz.zeroValue225
  t51 := Tryz.underlying341
  a51 := Tryz.isAgg341
  z51 := Tryz.sizeOf341
  v51 := Tryz.zeroValue341
  t146 := Tryz.underlying342
  a146 := Tryz.isAgg342
  z146 := Tryz.sizeOf342
  v146 := Tryz.zeroValue342
  g1 := by kernel_rfl }
open Go.RowKit Go.Lib in
theorem Tryz.strings_Index_one (s : ByteArray) (c : UInt8) (w : World) :
    Calls Tryz.prog 299 #[.string s, .string ⟨#[c]⟩] w fun e w' => e = .returned (.int .i64 (Lib.indexByte s.data.toList c)) ∧ w' = w := Any.strings_Index_one Tryz.lays143 s c w
open Go.RowKit Go.Lib in
def Tryz.lays146_ren : Go.Shelf.Ren := ⟨fun | 146 => 298 | 221 => 300 | 268 => 302 | 138 => 303 | 143 => 299 | 195 => 307 | 197 => 308 | 218 => 309 | 219 => 301 | 260 => 311 | 217 => 286 | 225 => 304 | 224 => 305 | 267 => 306 | 266 => 296 | 314 => 310 | n => n, fun | 9 => 9 | 31 => 22 | 3 => 3 | 4 => 4 | 0 => 0 | 105 => 339 | 21 => 21 | 5 => 5 | 46 => 225 | 119 => 344 | 139 => 347 | 138 => 346 | 146 => 342 | 51 => 341 | n => n, fun | 1 => 0 | 3 => 1 | 4 => 2 | n => n⟩
theorem Tryz.lays146 : Go.Proofs.Lays.n146 Tryz.prog Tryz.lays146_ren := {
  mixed := by kernel_rfl
  f138 := Tryz.func303.trans (congrArg some (by kernel_rfl))
  f143 := Tryz.func299.trans (congrArg some (by kernel_rfl))
  f146 := Tryz.func298.trans (congrArg some (by kernel_rfl))
  f195 := Tryz.func307.trans (congrArg some (by kernel_rfl))
  f197 := Tryz.func308.trans (congrArg some (by kernel_rfl))
  f217 := Tryz.func286.trans (congrArg some (by kernel_rfl))
  f218 := Tryz.func309.trans (congrArg some (by kernel_rfl))
  f219 := Tryz.func301.trans (congrArg some (by kernel_rfl))
  f221 := Tryz.func300.trans (congrArg some (by kernel_rfl))
  f224 := Tryz.func305.trans (congrArg some (by kernel_rfl))
  f225 := Tryz.func304.trans (congrArg some (by kernel_rfl))
  f260 := Tryz.func311.trans (congrArg some (by kernel_rfl))
  f266 := Tryz.func296.trans (congrArg some (by kernel_rfl))
  f267 := Tryz.func306.trans (congrArg some (by kernel_rfl))
  f268 := Tryz.func302.trans (congrArg some (by kernel_rfl))
  f314 := Tryz.func310.trans (congrArg some (by kernel_rfl))
  t0 := Tryz.underlying0
  a0 := Tryz.isAgg0
  z0 := Tryz.sizeOf0
  v0 := Tryz.zeroValue0
  t3 := Tryz.underlying3
  a3 := Tryz.isAgg3
  z3 := Tryz.sizeOf3
  v3 := Tryz.zeroValue3
  t4 := Tryz.underlying4
  a4 := Tryz.isAgg4
  z4 := Tryz.sizeOf4
  v4 := Tryz.zeroValue4
  t5 := Tryz.underlying5
  a5 := Tryz.isAgg5
  z5 := Tryz.sizeOf5
  v5 := Tryz.zeroValue5
  t9 := Tryz.underlying9
  a9 := Tryz.isAgg9
  z9 := Tryz.sizeOf9
  v9 := Tryz.zeroValue9
  t21 := Tryz.underlying21
  a21 := Tryz.isAgg21
  z21 := Tryz.sizeOf21
  v21 := Tryz.zeroValue21
  t31 := Tryz.underlying22
  a31 := Tryz.isAgg22
  z31 := Tryz.sizeOf22
  v31 := Tryz.zeroValue22
  t46 := Tryz.underlying225
  a46 := Tryz.isAgg225
  z46 := Tryz.sizeOf225
  v46 := Tryz.zeroValue225
  t51 := Tryz.underlying341
  a51 := Tryz.isAgg341
  z51 := Tryz.sizeOf341
  v51 := Tryz.zeroValue341
  t105 := Tryz.underlying339
  a105 := Tryz.isAgg339
  z105 := Tryz.sizeOf339
  v105 := Tryz.zeroValue339
  t119 := Tryz.underlying344
  a119 := Tryz.isAgg344
  z119 := Tryz.sizeOf344
  t138 := Tryz.underlying346
  a138 := Tryz.isAgg346
  z138 := Tryz.sizeOf346
  v138 := Tryz.zeroValue346
  t139 := Tryz.underlying347
  a139 := Tryz.isAgg347
  z139 := Tryz.sizeOf347
  v139 := Tryz.zeroValue347
  t146 := Tryz.underlying342
  a146 := Tryz.isAgg342
  z146 := Tryz.sizeOf342
  v146 := Tryz.zeroValue342
  g1 := by kernel_rfl
  g3 := by kernel_rfl
  g4 := by kernel_rfl }
open Go.RowKit Go.Lib in
theorem Tryz.strings_Split_chars (s sep : ByteArray) (w : World) (h0 : sep.size = 0) (hs : s.size < 4294967281) (hascii : ∀ (j : Nat) b, s.data.toList[j]? = some b → b.toNat < 128) :
    Calls Tryz.prog 298 #[.string s, .string sep] w fun e w' =>
      e = .returned (.slice (some ⟨(w.iter s s.size).heap.size, 0, none⟩) s.size s.size) ∧ w' = (w.iter s s.size).alloc (.cells ((Lib.charsB s).map Value.string).toArray 9) := Any.strings_Split_chars Tryz.lays146 (by kernel_rfl) s sep w h0 hs hascii
end Go.Proofs
