/-
  The reference's look at an image and at what is handed beside it: the same errors.
-/
import Derived.Test.YtpahhhhfhnpmjaaChk
import Derived.Test.YtpahhhhfhnpmjaaOpt
import Derived.Shelf.Abstract
import Derived.Handy
namespace Go.Proofs.Ytpahhhhfhnpmjaa
open Go.RowKit Go.Shelf
set_option maxRecDepth 100000

def inB (n lo hi : Int) : Bool := decide (lo ≤ n) && decide (n ≤ hi)
theorem within_any (b : Bool) (n lo hi : Int) (w : World) (hb : inB n lo hi = b) : Calls Try.prog 18 #[.int .i64 n, .int .i64 lo, .int .i64 hi] w fun e w' => e = .returned (.bool b) ∧ w' = w := by
  have HB := hid hb
  clear hb
  by_cases h1 : lo ≤ n
  · by_cases h2 : n ≤ hi
    · have hb : b = true := by rw [← HB.out]; simp [inB, h1, h2]
      subst hb
      go_enter Try.func18, Try.ntmps18
      go_wp2_with fail
      go_ret
      exact ⟨rfl, rfl⟩
    · have hb : b = false := by rw [← HB.out]; simp [inB, h1, h2]
      subst hb
      have h2' : hi < n := by omega
      go_enter Try.func18, Try.ntmps18
      go_wp2_with fail
      go_ret
      exact ⟨rfl, rfl⟩
  · have hb : b = false := by rw [← HB.out]; simp [inB, h1]
    subst hb
    have h1' : n < lo := by omega
    go_enter Try.func18, Try.ntmps18
    go_wp2_with fail
    go_ret
    exact ⟨rfl, rfl⟩

theorem inB_true {n lo hi : Int} (h1 : lo ≤ n) (h2 : n ≤ hi) : inB n lo hi = true := by simp [inB, h1, h2]
theorem inB_false {n lo hi : Int} (h : n < lo ∨ hi < n) : inB n lo hi = false := by
  unfold inB
  rcases h with h | h
  · rw [decide_eq_false (by omega)]; rfl
  · rw [decide_eq_false (p := n ≤ hi) (by omega)]; simp

set_option maxHeartbeats 800000 in
theorem CheckImage_any (a : Option Addr) (cap : Nat) (code : List Mc.Ins) (d : Int) (w : World) (hT : ImgAt w a code) (hl : code.length ≤ 1000000000000000) :
    Calls Try.prog 7 #[.agg #[.slice a code.length cap, .int .i64 d]] w fun e w' => e = .returned (.int .i64 (checkI code d)) ∧ Below w.heap.size w w' := by
  have HT : Hid (ImgAt w a code) := hT
  clear hT
  by_cases h1 : code.length < 1 ∨ 2048 < code.length
  · have HF : Hid (checkI code d = 2) := if_pos h1
    have HI : Hid (inB (code.length : Int) 1 2048 = false) := inB_false (by omega)
    clear h1
    generalize code.length = n at *
    go_enter Try.func7, Try.ntmps7
    go_wp2_with (go_at_call 18; refine (within_any false _ _ _ _ HI.out).mono ?_; rintro e w' ⟨rfl, rfl⟩)
    go_ret
    exact ⟨ret_int HF.out.symm, (Below.refl _ _).alloc (Nat.le_refl _) _⟩
  have H0 : Hid (checkI code d = if code.all opB then (if d < 0 ∨ 512 < d then 3 else 0) else 4) := if_neg h1
  have HI : Hid (inB (code.length : Int) 1 2048 = true) := inB_true (by omega) (by omega)
  clear h1
  go_enter Try.func7, Try.ntmps7
  go_wp2_with (go_at_call 18; refine (within_any true _ _ _ _ HI.out).mono ?_; rintro e w' ⟨rfl, rfl⟩)
  go_loopw [3] (fun i wr => ∃ k : Nat, k ≤ code.length ∧ i = .int .i64 k ∧ (code.take k).all opB = true ∧ Below (w.heap.size + 1) (w.alloc (.cells #[.slice a code.length cap, .int .i64 d] 24)) wr) (fun i _ => code.length - (intOf i).toNat)
  case atStart => exact ⟨0, Nat.zero_le _, rfl, rfl, Below.refl _ _⟩
  case round =>
    obtain ⟨k, hk, rfl, hall, hb⟩ := hrel
    have HA := hid hall
    have HB : Hid (Below w.heap.size w wr) := ((Below.refl _ _).alloc (Nat.le_refl _) _).trans (hb.mono (by omega))
    have ca : wr.cell? ⟨w.heap.size, 0, none⟩ = some (.slice a code.length cap) := (hb.cell (p := ⟨w.heap.size, 0, none⟩) (by simp)).trans (by simp)
    have cd : wr.cell? ⟨w.heap.size, 1, none⟩ = some (.int .i64 d) := (hb.cell (p := ⟨w.heap.size, 1, none⟩) (by simp)).trans (by simp)
    clear hall
    by_cases hlt : k < code.length
    · obtain ⟨b, off, rfl, hbl, c0, c1, c2⟩ := (HT.out.later HB.out).place hlt
      have HS := hid (all_snoc code opB k hlt)
      by_cases hop : 1 ≤ code[k].op ∧ code[k].op ≤ 22
      · have HO : Hid (opB code[k] = true) := by show opB code[k] = true; simp [opB, hop]
        have HJ : Hid (inB code[k].op 1 22 = true) := inB_true hop.1 hop.2
        clear hop
        go_wp2_with (go_at_call 18; refine (within_any true _ _ _ _ HJ.out).mono ?_; rintro e w' ⟨rfl, rfl⟩)
        go_roundw
        case rel => exact ⟨k + 1, by omega, by go_num, by rw [HS.out, HA.out, HO.out]; rfl, hb⟩
        case measure => simp [intOf]; omega
      · have HF : Hid (checkI code d = 4) := by
          show checkI code d = 4
          rw [H0.out, all_not code opB k hlt (by simp [opB]; omega)]; rfl
        have HJ : Hid (inB code[k].op 1 22 = false) := inB_false (by omega)
        clear hop
        go_wp2_with (go_at_call 18; refine (within_any false _ _ _ _ HJ.out).mono ?_; rintro e w' ⟨rfl, rfl⟩)
        go_ret
        exact ⟨ret_int HF.out.symm, HB.out⟩
    · have HO : Hid (checkI code d = if d < 0 ∨ 512 < d then 3 else 0) := by
        show checkI code d = _
        have := HA.out
        rw [List.take_of_length_le (by omega)] at this
        rw [H0.out, this]; rfl
      by_cases hd : d < 0 ∨ 512 < d
      · have HF : Hid (checkI code d = 3) := HO.out.trans (if_pos hd)
        have HJ : Hid (inB d 0 512 = false) := inB_false hd
        clear hd
        go_wp2_with (go_at_call 18; refine (within_any false _ _ _ _ HJ.out).mono ?_; rintro e w' ⟨rfl, rfl⟩)
        go_ret
        exact ⟨ret_int HF.out.symm, HB.out⟩
      · have HF : Hid (checkI code d = 0) := HO.out.trans (if_neg hd)
        have HJ : Hid (inB d 0 512 = true) := inB_true (by omega) (by omega)
        clear hd
        go_wp2_with (go_at_call 18; refine (within_any true _ _ _ _ HJ.out).mono ?_; rintro e w' ⟨rfl, rfl⟩)
        go_ret
        exact ⟨ret_int HF.out.symm, HB.out⟩

end Go.Proofs.Ytpahhhhfhnpmjaa
