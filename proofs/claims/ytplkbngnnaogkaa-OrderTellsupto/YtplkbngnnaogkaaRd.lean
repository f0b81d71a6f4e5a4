/-
  The document's look at a statement: what it is.
-/
import Derived.Test.YtplkbngnnaogkaaRc
namespace Go.Proofs.Ytplkbngnnaogkaa
open Go.RowKit Go.Maps

def s3 (s : St) : Bool := (inB s.op 1 3 && !fineB s.mod s.name) || (!inB s.op 1 3 && (!s.mod.toList.isEmpty || !s.name.toList.isEmpty)) || (decide (0 ≤ stN s.op) && ((s.args.length : Int) != stN s.op)) || (s.op != 4 && s.op != 5 && decide (0 < s.body.length)) || (s.op != 4 && decide (0 < s.other.length))
def sBad (lv : Int) (s : St) : Bool := if lv = 1 then !inB s.op 1 7 else if lv = 2 then decide (3 < s.args.length) else s3 s
def bL (lv : Int) : Nat → List St → Bool
  | 0, _ => lv == 2
  | k + 1, l => (lv == 2 && decide (10 < l.length)) || l.any (fun s => sBad lv s || (s.args.any (eL lv 6) || (((s.op == 4 || s.op == 5) || decide (0 < s.body.length)) && bL lv k s.body || (decide (0 < s.other.length) && bL lv k s.other))))
def sL (lv : Int) (k : Nat) (s : St) : Bool := sBad lv s || (s.args.any (eL lv 6) || (((s.op == 4 || s.op == 5) || decide (0 < s.body.length)) && bL lv k s.body || (decide (0 < s.other.length) && bL lv k s.other)))
theorem bL_succ (lv : Int) (k : Nat) (l : List St) : bL lv (k + 1) l = ((lv == 2 && decide (10 < l.length)) || l.any (sL lv k)) := rfl
theorem stmtRef_at {op : Int} {b : Bool} (h : inB op 1 3 = b) (w : World) : Calls Try.prog 90 #[.int .i64 op] w fun e w' => e = .returned (.bool b) ∧ w' = w := by
  subst h; exact stmtRef_any op w
theorem stmtArgs_at {op q : Int} (h : stN op = q) (w : World) : Calls Try.prog 92 #[.int .i64 op] w fun e w' => e = .returned (.int .i64 q) ∧ w' = w := by
  subst h; exact stmtArgs_any op w
theorem bx6 {W0 W W' : World} {b : Nat} {u0 u1 u2 u3 u4 u5 : Value} (hB : Hid (Blk W0 b [u0, u1, u2, u3, u4, u5])) (h0 : Hid (Below W0.heap.size W0 W)) (hb : Below W.heap.size W W') :
    Hid (Below W0.heap.size W0 W' ∧ W'.cell? ⟨b, 0, none⟩ = some u0 ∧ W'.cell? ⟨b, 1, none⟩ = some u1 ∧ W'.cell? ⟨b, 2, none⟩ = some u2 ∧ W'.cell? ⟨b, 3, none⟩ = some u3 ∧ W'.cell? ⟨b, 4, none⟩ = some u4 ∧ W'.cell? ⟨b, 5, none⟩ = some u5) := by
  have h := thenB h0.out hb
  have c := (hB.out.later h).c6
  exact ⟨h, c.1, c.2.1, c.2.2.1, c.2.2.2.1, c.2.2.2.2.1, c.2.2.2.2.2.1⟩
theorem stBad1 {op : Int} {mod name : ByteArray} {l : List Ex} {bd ot : List St} {b : Bool} (h : inB op 1 7 = b) : sBad 1 (.mk op mod name l bd ot) = !b := by subst h; rfl
end Go.Proofs.Ytplkbngnnaogkaa
