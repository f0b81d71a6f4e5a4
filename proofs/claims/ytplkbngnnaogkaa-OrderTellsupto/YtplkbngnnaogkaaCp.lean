/-
  What a right module is, without the program: kinds, how many, forms.
-/
import Derived.Test.YtplkbngnnaogkaaTd
namespace Go.Proofs.Ytplkbngnnaogkaa
open Go.RowKit

/- What an operation has. -/
structure Sh where
  named : Bool
  number : Bool
  least : Int
  most : Int
  body : Bool
  other : Bool
def Sh.val (s : Sh) : Value := .agg #[.bool s.named, .bool s.number, .int .i64 s.least, .int .i64 s.most, .bool s.body, .bool s.other]
def sh0 : Sh := ⟨false, false, 0, 0, false, false⟩
def exSh (op : Int) : Option Sh :=
  if op = 1 then some ⟨false, true, 0, 0, false, false⟩ else if op = 2 then some sh0 else if op = 3 then some ⟨true, false, 0, 0, false, false⟩
  else if op = 4 then some ⟨true, false, 1, 1, false, false⟩ else if op = 5 then some ⟨true, false, 0, 3, false, false⟩ else if op = 6 then some ⟨false, false, 1, 1, false, false⟩
  else if 7 ≤ op ∧ op ≤ 15 then some ⟨false, false, 2, 2, false, false⟩ else none
def stSh (op : Int) : Option Sh :=
  if op = 1 then some ⟨true, false, 1, 1, false, false⟩ else if op = 2 then some ⟨true, false, 2, 2, false, false⟩ else if op = 3 then some ⟨true, false, 0, 3, false, false⟩
  else if op = 4 then some ⟨false, false, 1, 1, true, true⟩ else if op = 5 then some ⟨false, false, 1, 1, true, false⟩ else if op = 6 then some ⟨false, false, 1, 1, false, false⟩
  else if op = 7 then some ⟨false, false, 1, 1, false, false⟩ else none
def exB (op : Int) : Bool := (exSh op).isSome
def stB (op : Int) : Bool := (stSh op).isSome
def exS (op : Int) : Sh := (exSh op).getD sh0
def stS (op : Int) : Sh := (stSh op).getD sh0

def kept : List (List UInt8) := [[109, 111, 100, 117, 108, 101], [117, 115, 101], [112, 117, 98], [99, 111, 110, 115, 116], [118, 97, 114], [97, 114, 114, 97, 121], [112, 114, 111, 99], [108, 111, 99, 97, 108], [109, 97, 105, 110],
  [105, 102], [101, 108, 115, 101], [119, 104, 105, 108, 101], [114, 101, 116, 117, 114, 110], [111, 117, 116], [105, 110]]
def keptB (s : ByteArray) : Bool := kept.contains s.data.toList
def nameOk (s : ByteArray) : Bool := !keptB s && Lx.nameB s.data.toList
def numOkB (n : Int) : Bool := decide (0 ≤ n) && decide (n ≤ 1099511627775)
def refOk (h : Sh) (mod name : ByteArray) : Bool := if h.named then nameOk name && (decide (mod.size = 0) || nameOk mod) else decide (mod.size = 0) && decide (name.size = 0)
def nOk (h : Sh) (n : Int) : Bool := if h.number then numOkB n else decide (n = 0)
def countOk (h : Sh) (k : Nat) : Bool := decide (h.least ≤ (k : Int)) && decide ((k : Int) ≤ h.most)

/- Kinds: k is how deep it may yet go. -/
def exKinds : Nat → List Ex → Bool
  | 0, _ => true
  | k + 1, l => l.all (fun x => exB x.op && exKinds k x.args)
def stKinds : Nat → List St → Bool
  | 0, _ => true
  | k + 1, l => l.all (fun s => stB s.op && (exKinds 6 s.args && (stKinds k s.body && stKinds k s.other)))
/- Too many, or too deep. -/
def exMany : Nat → List Ex → Bool
  | 0, l => decide (0 < l.length)
  | k + 1, l => decide (3 < l.length) || l.any (fun x => exMany k x.args)
def stMany : Nat → List St → Bool
  | 0, _ => true
  | k + 1, l => decide (10 < l.length) || l.any (fun s => exMany 6 s.args || (((stS s.op).body || decide (0 < s.body.length)) && stMany k s.body || (decide (0 < s.other.length) && stMany k s.other)))
/- Forms. -/
def exForm : Nat → List Ex → Bool
  | 0, _ => true
  | k + 1, l => l.all (fun x => refOk (exS x.op) x.mod x.name && (nOk (exS x.op) x.n && (countOk (exS x.op) x.args.length && exForm k x.args)))
def stForm : Nat → List St → Bool
  | 0, _ => true
  | k + 1, l => l.all (fun s => refOk (stS s.op) s.mod s.name && (countOk (stS s.op) s.args.length && (exForm 6 s.args && (((stS s.op).body || decide (s.body.length = 0)) && (((stS s.op).other || decide (s.other.length = 0)) && (stForm k s.body && stForm k s.other))))))
def sizeOk (d : De) : Bool := if d.kind = 1 then numOkB d.n else if d.kind = 3 then decide (1 ≤ d.n) && decide (d.n ≤ 32) else decide (d.n = 0)

def Mo.bodies (m : Mo) : List (List St) := m.procs.map Pr.body ++ [m.main]
def Mo.kinds (m : Mo) : Bool := m.decls.all (fun d => decide (1 ≤ d.kind) && decide (d.kind ≤ 3)) && m.bodies.all (stKinds 6)
def Mo.many (m : Mo) : Bool := decide (3 < m.uses.length) || (decide (10 < m.decls.length) || (decide (6 < m.procs.length) || (m.procs.any (fun p => decide (3 < p.params.length) || decide (4 < p.locals.length)) || m.bodies.any (stMany 6))))
def Mo.form (m : Mo) : Bool := nameOk m.name && (m.uses.all nameOk && (m.decls.all (fun d => nameOk d.name && sizeOk d) && (m.procs.all (fun p => nameOk p.name && (p.params.all nameOk && p.locals.all nameOk)) && m.bodies.all (stForm 6))))
def Mo.err (m : Mo) : Int := if m.kinds then (if m.many then 2 else (if m.form then 0 else 1)) else 4

theorem any_snoc {α : Type} (ts : List α) (p : α → Bool) (k : Nat) (h : k < ts.length) : (ts.take (k + 1)).any p = ((ts.take k).any p || p ts[k]) := by
  rw [List.take_succ_eq_append_getElem h, List.any_append]; simp
theorem any_at {α : Type} (ts : List α) (p : α → Bool) (k : Nat) (h : k < ts.length) (hp : p ts[k] = true) : ts.any p = true := by
  rw [List.any_eq_true]; exact ⟨ts[k], List.getElem_mem _, hp⟩
theorem all_end {α : Type} {ts : List α} {p : α → Bool} {k : Nat} (h : (ts.take k).all p = true) (hk : ¬ k < ts.length) : ts.all p = true := by
  rw [List.take_of_length_le (by omega)] at h; exact h
theorem any_end {α : Type} {ts : List α} {p : α → Bool} {k : Nat} (h : (ts.take k).any p = false) (hk : ¬ k < ts.length) : ts.any p = false := by
  rw [List.take_of_length_le (by omega)] at h; exact h
theorem wf_range {n : Int} (h : (Lit.int .i64 n).wf = true) : -9223372036854775808 ≤ n ∧ n ≤ 9223372036854775807 := by
  have h1 : IntKind.i64.min = -9223372036854775808 := by decide
  have h2 : IntKind.i64.max = 9223372036854775807 := by decide
  simp [Lit.wf, h1, h2] at h
  omega
end Go.Proofs.Ytplkbngnnaogkaa
