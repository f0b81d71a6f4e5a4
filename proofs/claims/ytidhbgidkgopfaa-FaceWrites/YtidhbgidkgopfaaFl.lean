/-
  The reference's nose: a number.
-/
import Derived.Test.YtidhbgidkgopfaaFk
import Derived.Laws.BitsAllLaws
namespace Go.Proofs.Ytidhbgidkgopfaa
open Go.RowKit Go.Shelf
set_option maxRecDepth 100000

theorem or_byte (n b : Int) (h0 : 0 ≤ b) (h1 : b ≤ 255) : bits .or .i64 (wrap64 (n * 256)) b = wrap64 (n * 256 + b) := by
  show IntKind.i64.wrap ((BitVec.ofInt 64 (wrap64 (n * 256)) ||| BitVec.ofInt 64 b).toNat : Int) = _
  rw [BitVec.toNat_or, BitVec.toNat_ofInt, BitVec.toNat_ofInt]
  rw [nat_join8 _ _ (by unfold wrap64; omega) (by omega)]
  show IntKind.wrap .i64 _ = _
  unfold IntKind.wrap wrap64
  simp [IntKind.bits, IntKind.signed]
  omega
/- k bytes more, behind n -/
def nNumK : Nat → Int → List UInt8 × Bool → Int × (List UInt8 × Bool)
  | 0, n, st => (n, st)
  | k + 1, n, st => nNumK k (wrap64 (n * 256 + (nByte st).1)) (nByte st).2
def nNum (st : List UInt8 × Bool) : Int × (List UInt8 × Bool) := nNumK 8 0 st

set_option maxHeartbeats 800000 in
theorem noseNum_any (nb : Nat) (st : List UInt8 × Bool) (w : World) (h : Nose w nb st) (hl : st.1.length ≤ 1000000000000000) :
    Calls Try.prog 29 #[.pointer (some ⟨nb, 0, none⟩)] w fun e w' => e = .returned (.int .i64 (nNum st).1) ∧ Nose w' nb (nNum st).2 ∧ w.grownBy w' (some nb) := by
  have HN := hid h
  obtain ⟨R, hR⟩ : ∃ R, nNumK 8 0 st = R := ⟨_, rfl⟩
  rw [show nNum st = R from hR]
  have HR := hid hR
  clear h hR
  go_enter Try.func29, Try.ntmps29
  go_wp2_with fail
  go_loopw [3, 4] (fun u i wr => ∃ k : Nat, ∃ n : Int, ∃ t : List UInt8 × Bool, k ≤ 8 ∧ i = .int .i64 k ∧ u = .int .i64 n ∧ t.1.length ≤ st.1.length ∧ nNumK (8 - k) n t = R ∧ Nose wr nb t ∧ w.grownBy wr (some nb)) (fun _ i _ => 8 - (intOf i).toNat)
  case atStart => exact ⟨0, 0, st, Nat.zero_le _, rfl, rfl, Nat.le_refl _, HR.out, HN.out, grown_refl _ _⟩
  case round =>
    obtain ⟨k, n, t, hk, rfl, rfl, ht, hr, hn, hg⟩ := hrel
    have HC := hid (noseByte_any nb t wr hn (Nat.le_trans ht hl))
    have HG := hid hg
    have HT := hid ht
    have HN1 := hid hn
    have HR1 := hid hr
    have HQ := hid (nByte_lo t)
    clear hn hg ht hr
    by_cases hlt : k < 8
    · have HS : Hid (nNumK (8 - (k + 1)) (wrap64 (n * 256 + (nByte t).1)) (nByte t).2 = R) := by
        have := HR1.out
        rw [show 8 - k = (8 - (k + 1)) + 1 by omega] at this
        exact this
      have HL := hid (nByte_len t)
      generalize nByte t = q at *
      go_wp2_with (go_at_call 28; refine HC.out.mono ?_; rintro e w' ⟨rfl, hn, hg⟩; have HN2 := hid hn; have HG2 := hid hg; clear hn hg)
      go_roundw
      case rel => exact ⟨k + 1, _, q.2, by omega, by go_num, by rw [or_byte _ _ HQ.out.1 HQ.out.2], Nat.le_trans HL.out HT.out, HS.out, HN2.out, grown_trans HG.out HG2.out⟩
      case measure => simp [intOf]; omega
    · obtain rfl : k = 8 := by omega
      go_wp2_with fail
      go_returns
      have := HR1.out
      subst this
      exact ⟨rfl, HN1.out, HG.out⟩

end Go.Proofs.Ytidhbgidkgopfaa
