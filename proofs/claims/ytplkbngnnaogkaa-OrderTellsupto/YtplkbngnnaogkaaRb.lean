/-
  The document's look at an expression.
-/
import Derived.Test.YtplkbngnnaogkaaRa
import Derived.Deep.RegionHeld
import Derived.Deep.RegionHeld3
import Derived.Deep.QuietTactic
import Derived.BigQuiet
import Derived.Deep.CutRange
import Derived.Deep.DeepCutAuto
namespace Go.Proofs.Ytplkbngnnaogkaa
open Go.RowKit Go.Maps

def c3 (x : Ex) : Bool := (inB x.op 3 5 && !fineB x.mod x.name) || (!inB x.op 3 5 && (!x.mod.toList.isEmpty || !x.name.toList.isEmpty)) || (x.op == 1 && !inB x.n 0 1099511627775) || (x.op != 1 && x.n != 0) || (decide (0 ≤ exN x.op) && ((x.args.length : Int) != exN x.op))
def eBad (lv : Int) (x : Ex) : Bool := if lv = 1 then !inB x.op 1 15 else if lv = 2 then decide (3 < x.args.length) else c3 x
def eL (lv : Int) : Nat → Ex → Bool
  | 0, _ => lv == 2
  | k + 1, x => eBad lv x || x.args.any (eL lv k)
theorem exprRef_at {op : Int} {b : Bool} (h : inB op 3 5 = b) (w : World) : Calls Try.prog 95 #[.int .i64 op] w fun e w' => e = .returned (.bool b) ∧ w' = w := by
  subst h; exact exprRef_any op w
theorem exprArgs_at {op q : Int} (h : exN op = q) (w : World) : Calls Try.prog 96 #[.int .i64 op] w fun e w' => e = .returned (.int .i64 q) ∧ w' = w := by
  subst h; exact exprArgs_any op w
theorem within_at {n lo hi : Int} {b : Bool} (h : inB n lo hi = b) (w : World) : Calls Try.prog 65 #[.int .i64 n, .int .i64 lo, .int .i64 hi] w fun e w' => e = .returned (.bool b) ∧ w' = w := by
  subst h; exact within_any n lo hi w
theorem refFine_at {mod name : ByteArray} {b : Bool} (h : fineB mod name = b) (w : World) (h1 : mod.size ≤ maxLen) (h2 : name.size ≤ maxLen) :
    Calls Try.prog 91 #[.string mod, .string name] w fun e w' => e = .returned (.bool b) ∧ Below w.heap.size w w' := by
  subst h; exact refFine_any mod name w h1 h2
theorem drewN_below (w : World) (n : Nat) : Below w.heap.size w (w.drewN n) := by
  induction n with
  | zero => exact Below.refl _ _
  | succ n ih => exact ih.drew

theorem endB {w0 w' : World} {P : Prop} (h : Hid (Below w0.heap.size w0 w' ∧ P)) : Hid (Below w0.heap.size w0 w') := h.out.1
theorem bx5 {W0 W W' : World} {b : Nat} {u0 u1 u2 u3 u4 : Value} (hB : Hid (Blk W0 b [u0, u1, u2, u3, u4])) (h0 : Hid (Below W0.heap.size W0 W)) (hb : Below W.heap.size W W') :
    Hid (Below W0.heap.size W0 W' ∧ W'.cell? ⟨b, 0, none⟩ = some u0 ∧ W'.cell? ⟨b, 1, none⟩ = some u1 ∧ W'.cell? ⟨b, 2, none⟩ = some u2 ∧ W'.cell? ⟨b, 3, none⟩ = some u3 ∧ W'.cell? ⟨b, 4, none⟩ = some u4) := by
  have h := thenB h0.out hb
  have c := (hB.out.later h).c5
  exact ⟨h, c.1, c.2.1, c.2.2.1, c.2.2.2.1, c.2.2.2.2.1⟩
theorem exBad1 {op n : Int} {mod name : ByteArray} {l : List Ex} {b : Bool} (h : inB op 1 15 = b) : eBad 1 (.mk op n mod name l) = !b := by subst h; rfl
end Go.Proofs.Ytplkbngnnaogkaa
