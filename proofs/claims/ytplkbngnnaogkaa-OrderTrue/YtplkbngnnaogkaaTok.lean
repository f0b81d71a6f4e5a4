/-
  The functions that make one token, tell its text or look whether it is right answer what the plain mathematics says; of what was there nothing changes.
-/
import Derived.Test.YtplkbngnnaogkaaLeafc
namespace Go.Proofs.Ytplkbngnnaogkaa
open Go.RowKit

theorem ret_ib {a b : Int} {x y : Bool} (h1 : a = b) (h2 : x = y) : Ending.returned (.tuple #[.int .i64 a, .bool x]) = .returned (.tuple #[.int .i64 b, .bool y]) := by rw [h1, h2]
theorem beq_eq_decide (a b : List UInt8) : (a == b) = decide (a = b) := by
  rw [Bool.eq_iff_iff]; simp
/- A token as the program holds it. -/
structure Tk where
  kind : Int
  n : Int
  text : ByteArray
def Tk.val (t : Tk) : Value := .agg #[.int .i64 t.kind, .int .i64 t.n, .string t.text]
def tokOf (s : ByteArray) : Option Tk :=
  if Lx.signL s.data.toList then some ⟨3, 0, s⟩ else if Lx.nameB s.data.toList then some ⟨1, 0, s⟩ else if Lx.numOk s.data.toList then some ⟨2, Lx.valL s.data.toList, ⟨#[]⟩⟩ else none

/- The library's table of powers of ten, as it is laid when the program begins. -/
def Tk.txt (t : Tk) : ByteArray := if t.kind = 2 then strOf (Lib.decDigits t.n.toNat) else t.text
def Tk.inB (t : Tk) : Prop := t.kind = 2 → 0 ≤ t.n ∧ t.n ≤ 1099511627775

end Go.Proofs.Ytplkbngnnaogkaa
