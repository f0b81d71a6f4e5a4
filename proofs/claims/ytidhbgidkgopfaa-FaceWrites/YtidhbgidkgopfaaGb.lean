/-
  Numbers as bytes, there and back.
-/
import Derived.Test.YtidhbgidkgopfaaGa
namespace Go.Proofs.Ytidhbgidkgopfaa
open Go.RowKit
set_option maxRecDepth 100000

theorem byteOf_of (c : UInt8) (n : Int) (h : n % 256 = c.toNat) : byteOf n = c := by
  have h1 := byteOf_nat n
  rw [h] at h1
  exact UInt8.toNat_inj.1 (by omega)
theorem wrap_step (x y : Int) : wrap64 (wrap64 x * 256 + y) = wrap64 (x * 256 + y) := by unfold wrap64; omega
def horn (a b c d e f g h : Int) : Int := ((((((a * 256 + b) * 256 + c) * 256 + d) * 256 + e) * 256 + f) * 256 + g) * 256 + h
theorem fold8 (st : Int → UInt8 → Int) (a b c d e f g h : UInt8) : [a, b, c, d, e, f, g, h].foldl st 0 = st (st (st (st (st (st (st (st 0 a) b) c) d) e) f) g) h := rfl
theorem valStep_eq (n : Int) (c : UInt8) : valStep n c = wrap64 (n * 256 + c.toNat) := by unfold valStep; exact Eq.refl _
theorem step_of {n x : Int} (h : n = wrap64 x) (c : UInt8) : valStep n c = wrap64 (x * 256 + c.toNat) := by rw [valStep_eq, h, wrap_step]
theorem horn_eq (a b c d e f g h : Int) : horn a b c d e f g h = ((((((a * 256 + b) * 256 + c) * 256 + d) * 256 + e) * 256 + f) * 256 + g) * 256 + h := by unfold horn; exact Eq.refl _
theorem valL_eight (a b c d e f g h : UInt8) : valL [a, b, c, d, e, f, g, h] = wrap64 (horn a.toNat b.toNat c.toNat d.toNat e.toNat f.toNat g.toNat h.toNat) := by
  have h0 : valL [a, b, c, d, e, f, g, h] = _ := fold8 valStep a b c d e f g h
  have s1 : valStep 0 a = wrap64 a.toNat := by rw [valStep_eq, Int.zero_mul, Int.zero_add]
  rw [h0, horn_eq]
  exact step_of (step_of (step_of (step_of (step_of (step_of (step_of s1 b) c) d) e) f) g) h
theorem h_div (x c : Int) (h0 : 0 ≤ c) (h1 : c < 256) : (x * 256 + c) / 256 = x := by omega
theorem h_mod (x c : Int) (h0 : 0 ≤ c) (h1 : c < 256) : (x * 256 + c) % 256 = c := by omega
theorem w0 (v : Int) : wrap64 v % 256 = v % 256 := by unfold wrap64; omega
theorem w1 (v : Int) : wrap64 v / 256 % 256 = v / 256 % 256 := by unfold wrap64; omega
theorem p2 (v : Int) : v / 65536 = v / 256 / 256 := (Int.ediv_ediv_of_nonneg (x := v) (y := 256) (z := 256) (by decide)).symm
theorem p3 (v : Int) : v / 16777216 = v / 65536 / 256 := (Int.ediv_ediv_of_nonneg (x := v) (y := 65536) (z := 256) (by decide)).symm
theorem p4 (v : Int) : v / 4294967296 = v / 16777216 / 256 := (Int.ediv_ediv_of_nonneg (x := v) (y := 16777216) (z := 256) (by decide)).symm
theorem p5 (v : Int) : v / 1099511627776 = v / 4294967296 / 256 := (Int.ediv_ediv_of_nonneg (x := v) (y := 4294967296) (z := 256) (by decide)).symm
theorem p6 (v : Int) : v / 281474976710656 = v / 1099511627776 / 256 := (Int.ediv_ediv_of_nonneg (x := v) (y := 1099511627776) (z := 256) (by decide)).symm
theorem p7 (v : Int) : v / 72057594037927936 = v / 281474976710656 / 256 := (Int.ediv_ediv_of_nonneg (x := v) (y := 281474976710656) (z := 256) (by decide)).symm
theorem w2 (v : Int) : wrap64 v / 65536 % 256 = v / 256 / 256 % 256 := by
  have h : wrap64 v / 65536 % 256 = v / 65536 % 256 := by unfold wrap64; omega
  rw [h, p2]
theorem w3 (v : Int) : wrap64 v / 16777216 % 256 = v / 256 / 256 / 256 % 256 := by
  have h : wrap64 v / 16777216 % 256 = v / 16777216 % 256 := by unfold wrap64; omega
  rw [h, p3, p2]
theorem w4 (v : Int) : wrap64 v / 4294967296 % 256 = v / 256 / 256 / 256 / 256 % 256 := by
  have h : wrap64 v / 4294967296 % 256 = v / 4294967296 % 256 := by unfold wrap64; omega
  rw [h, p4, p3, p2]
theorem w5 (v : Int) : wrap64 v / 1099511627776 % 256 = v / 256 / 256 / 256 / 256 / 256 % 256 := by
  have h : wrap64 v / 1099511627776 % 256 = v / 1099511627776 % 256 := by unfold wrap64; omega
  rw [h, p5, p4, p3, p2]
theorem w6 (v : Int) : wrap64 v / 281474976710656 % 256 = v / 256 / 256 / 256 / 256 / 256 / 256 % 256 := by
  have h : wrap64 v / 281474976710656 % 256 = v / 281474976710656 % 256 := by unfold wrap64; omega
  rw [h, p6, p5, p4, p3, p2]
theorem w7 (v : Int) : wrap64 v / 72057594037927936 % 256 = v / 256 / 256 / 256 / 256 / 256 / 256 / 256 % 256 := by
  have h : wrap64 v / 72057594037927936 % 256 = v / 72057594037927936 % 256 := by unfold wrap64; omega
  rw [h, p7, p6, p5, p4, p3, p2]
theorem eight {x : List UInt8} (h : x.length = 8) : ∃ a b c d e f g i, x = [a, b, c, d, e, f, g, i] := by
  match x, h with
  | [a, b, c, d, e, f, g, i], _ => exact ⟨a, b, c, d, e, f, g, i, rfl⟩
theorem u8_in (c : UInt8) : 0 ≤ (c.toNat : Int) ∧ (c.toNat : Int) < 256 := by have := c.toNat_lt; omega
theorem numB_valL {x : List UInt8} (hx : x.length = 8) : numB (valL x) = x := by
  obtain ⟨a, b, c, d, e, f, g, h, rfl⟩ := eight hx
  rw [valL_eight]
  have da := u8_in a; have db := u8_in b; have dc := u8_in c; have dd := u8_in d
  have de := u8_in e; have df := u8_in f; have dg := u8_in g; have dh := u8_in h
  unfold numB
  rw [byteOf_of a _ (by rw [w7]; rw [horn_eq, h_div _ _ dh.1 dh.2, h_div _ _ dg.1 dg.2, h_div _ _ df.1 df.2, h_div _ _ de.1 de.2, h_div _ _ dd.1 dd.2, h_div _ _ dc.1 dc.2, h_div _ _ db.1 db.2]; omega),
    byteOf_of b _ (by rw [w6]; rw [horn_eq, h_div _ _ dh.1 dh.2, h_div _ _ dg.1 dg.2, h_div _ _ df.1 df.2, h_div _ _ de.1 de.2, h_div _ _ dd.1 dd.2, h_div _ _ dc.1 dc.2, h_mod _ _ db.1 db.2]),
    byteOf_of c _ (by rw [w5]; rw [horn_eq, h_div _ _ dh.1 dh.2, h_div _ _ dg.1 dg.2, h_div _ _ df.1 df.2, h_div _ _ de.1 de.2, h_div _ _ dd.1 dd.2, h_mod _ _ dc.1 dc.2]),
    byteOf_of d _ (by rw [w4]; rw [horn_eq, h_div _ _ dh.1 dh.2, h_div _ _ dg.1 dg.2, h_div _ _ df.1 df.2, h_div _ _ de.1 de.2, h_mod _ _ dd.1 dd.2]),
    byteOf_of e _ (by rw [w3]; rw [horn_eq, h_div _ _ dh.1 dh.2, h_div _ _ dg.1 dg.2, h_div _ _ df.1 df.2, h_mod _ _ de.1 de.2]),
    byteOf_of f _ (by rw [w2]; rw [horn_eq, h_div _ _ dh.1 dh.2, h_div _ _ dg.1 dg.2, h_mod _ _ df.1 df.2]),
    byteOf_of g _ (by rw [w1]; rw [horn_eq, h_div _ _ dh.1 dh.2, h_mod _ _ dg.1 dg.2]),
    byteOf_of h _ (by rw [w0]; rw [horn_eq, h_mod _ _ dh.1 dh.2])]

end Go.Proofs.Ytidhbgidkgopfaa
