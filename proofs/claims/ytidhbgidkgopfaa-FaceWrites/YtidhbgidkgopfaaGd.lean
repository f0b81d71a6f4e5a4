/-
  Numbers as bytes, and back.
-/
import Derived.Test.YtidhbgidkgopfaaGb
namespace Go.Proofs.Ytidhbgidkgopfaa
open Go.RowKit
set_option maxRecDepth 100000

theorem horn_lin (q0 q1 q2 q3 q4 q5 q6 q7 q8 r0 r1 r2 r3 r4 r5 r6 r7 : Int) (h0 : q0 = q1 * 256 + r0) (h1 : q1 = q2 * 256 + r1) (h2 : q2 = q3 * 256 + r2) (h3 : q3 = q4 * 256 + r3) (h4 : q4 = q5 * 256 + r4) (h5 : q5 = q6 * 256 + r5) (h6 : q6 = q7 * 256 + r6) (h7 : q7 = q8 * 256 + r7) :
    horn r7 r6 r5 r4 r3 r2 r1 r0 = q0 - q8 * 18446744073709551616 := by
  rw [horn_eq]
  subst h7 h6 h5 h4 h3 h2 h1 h0
  omega
theorem valL_numB (n : Int) (h0 : -9223372036854775808 ≤ n) (h1 : n ≤ 9223372036854775807) : valL (numB n) = n := by
  unfold numB
  rw [valL_eight]
  simp only [byteOf_nat]
  have d : ∀ x : Int, x = x / 256 * 256 + x % 256 := fun x => by omega
  have h := horn_lin n (n / 256) (n / 65536) (n / 16777216) (n / 4294967296) (n / 1099511627776) (n / 281474976710656) (n / 72057594037927936) (n / 72057594037927936 / 256) _ _ _ _ _ _ _ _
    (d n) (by rw [p2]; exact d _) (by rw [p3]; exact d _) (by rw [p4]; exact d _) (by rw [p5]; exact d _) (by rw [p6]; exact d _) (by rw [p7]; exact d _) (d _)
  rw [h]
  unfold wrap64
  omega

end Go.Proofs.Ytidhbgidkgopfaa
