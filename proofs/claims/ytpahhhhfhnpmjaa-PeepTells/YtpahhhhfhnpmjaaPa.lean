/-
  Peepholes as plain mathematics: marks, what is laid at a place, the peeped code.
-/
import Derived.Test.YtpahhhhfhnpmjaaPurb
namespace Go.Proofs.Ytpahhhhfhnpmjaa
namespace Mc
open Go.RowKit

def dI : Ins := ⟨0, 0, 0⟩
def nopI : Ins := ⟨21, 0, 0⟩
def pshI (n : Int) : Ins := ⟨1, n, 0⟩
def jmpI (n : Int) : Ins := ⟨11, n, 0⟩
/- marks -/
def setM (l : List Bool) (k : Int) : List Bool := if 0 ≤ k ∧ k < l.length then l.set k.toNat true else l
def mark1 (l : List Bool) (i : Ins) (at_ : Nat) : List Bool :=
  if i.op = 11 ∨ i.op = 12 then setM l i.a else if i.op = 13 then setM (setM l i.a) ((at_ : Int) + 1) else l
def marksTo (c : List Ins) : Nat → List Bool
  | 0 => setM (List.replicate c.length false) 0
  | k + 1 => mark1 (marksTo c k) (c.getD k dI) k
def marks (c : List Ins) : List Bool := marksTo c c.length
/- at a place -/
def foldsB (op : Int) : Bool := decide (op = 9) || decide (op = 10) || decide (op = 11) || decide (op = 14) || decide (op = 15)
def known (op a b : Int) : Int := (reck op a b).getD 0
def bareB (c : List Ins) (m : List Bool) (i : Nat) (op : Int) : Bool := decide (i < c.length) && decide ((c.getD i dI).op = op) && !(m.getD i true)
def fold3 (c : List Ins) (i : Nat) : List Ins :=
  ((c.set i nopI).set (i + 1) nopI).set (i + 2) (pshI (known (c.getD (i + 2) dI).a (c.getD i dI).a (c.getD (i + 1) dI).a))
def lay2 (c : List Ins) (i : Nat) (x : Ins) : List Ins := (c.set i nopI).set (i + 1) x
def decI (n to : Int) : Ins := if n = 0 then jmpI to else nopI
/- the rules of what is known, at a place where a push stands -/
def folded (c : List Ins) (m : List Bool) (i : Nat) : List Ins :=
  if bareB c m (i + 1) 1 && bareB c m (i + 2) 10 && foldsB (c.getD (i + 2) dI).a then fold3 c i
  else if bareB c m (i + 1) 12 then lay2 c i (decI (c.getD i dI).a (c.getD (i + 1) dI).a)
  else if bareB c m (i + 1) 9 then lay2 c i (pshI (truth ((c.getD i dI).a == 0)))
  else if bareB c m (i + 1) 22 then lay2 c i (pshI (truth ((c.getD i dI).a != 0)))
  else if bareB c m (i + 1) 17 then lay2 c i nopI
  else c
/- a jump to a jump -/
def shortB (was : List Ins) (x : Ins) (i : Nat) : Bool :=
  decide (0 ≤ x.a) && decide (x.a < was.length) && !decide (x.a = i) && decide ((was.getD x.a.toNat dI).op = 11)
def shorten (was c : List Ins) (i : Nat) : List Ins :=
  if shortB was (c.getD i dI) i then c.set i { c.getD i dI with a := (was.getD (c.getD i dI).a.toNat dI).a } else c
def jumpB (x : Ins) : Bool := decide (x.op = 11) || decide (x.op = 12)
def lookAt (was c : List Ins) (m : List Bool) (i : Nat) : List Ins :=
  if jumpB (c.getD i dI) then shorten was c i else if (c.getD i dI).op = 1 then folded c m i else c
def peepTo (was : List Ins) (m : List Bool) : Nat → List Ins
  | 0 => was
  | k + 1 => lookAt was (peepTo was m k) m k
def peep (was : List Ins) : List Ins := peepTo was (marks was) was.length

theorem setM_len (l : List Bool) (k : Int) : (setM l k).length = l.length := by unfold setM; split <;> simp
theorem mark1_len (l : List Bool) (i : Ins) (k : Nat) : (mark1 l i k).length = l.length := by
  unfold mark1; split
  · exact setM_len _ _
  · split
    · rw [setM_len, setM_len]
    · rfl
theorem marksTo_len (c : List Ins) : ∀ k, (marksTo c k).length = c.length
  | 0 => by unfold marksTo; rw [setM_len]; simp
  | k + 1 => by unfold marksTo; rw [mark1_len]; exact marksTo_len c k
theorem folded_len (c : List Ins) (m : List Bool) (i : Nat) : (folded c m i).length = c.length := by
  unfold folded fold3 lay2
  repeat (split; · simp)
  rfl
theorem shorten_len (was c : List Ins) (i : Nat) : (shorten was c i).length = c.length := by unfold shorten; split <;> simp
theorem lookAt_len (was c : List Ins) (m : List Bool) (i : Nat) : (lookAt was c m i).length = c.length := by
  unfold lookAt; split
  · exact shorten_len _ _ _
  · split
    · exact folded_len _ _ _
    · rfl
theorem peepTo_len (was : List Ins) (m : List Bool) : ∀ k, (peepTo was m k).length = was.length
  | 0 => rfl
  | k + 1 => by unfold peepTo; rw [lookAt_len]; exact peepTo_len was m k

/- what a mark stays, what it becomes -/
theorem setM_get (l : List Bool) (k : Int) (j : Nat) (h : l.getD j true = true) : (setM l k).getD j true = true := by
  unfold setM; split
  · rw [List.getD_eq_getElem?_getD, List.getElem?_set]
    split
    · split <;> rfl
    · rwa [List.getD_eq_getElem?_getD] at h
  · exact h
theorem setM_self (l : List Bool) (k : Int) (j : Nat) (h : (j : Int) = k) : (setM l k).getD j true = true := by
  unfold setM; split
  · rw [List.getD_eq_getElem?_getD, List.getElem?_set]
    rw [if_pos (by omega)]
    split <;> rfl
  · rw [List.getD_eq_getElem?_getD, List.getElem?_eq_none (by omega)]; rfl
theorem mark1_get (l : List Bool) (i : Ins) (k j : Nat) (h : l.getD j true = true) : (mark1 l i k).getD j true = true := by
  unfold mark1; split
  · exact setM_get _ _ _ h
  · split
    · exact setM_get _ _ _ (setM_get _ _ _ h)
    · exact h
/- what is to be marked, is; of places that are not there getD tells true -/
structure Marked (c : List Ins) (m : List Bool) : Prop where
  goes : ∀ x, x < c.length → ((c.getD x dI).op = 11 ∨ (c.getD x dI).op = 12 ∨ (c.getD x dI).op = 13) → ∀ j : Nat, (j : Int) = (c.getD x dI).a → m.getD j true = true
  back : ∀ x, x < c.length → (c.getD x dI).op = 13 → m.getD (x + 1) true = true
theorem marksTo_goes (c : List Ins) (k : Nat) : ∀ x, x < k → ((c.getD x dI).op = 11 ∨ (c.getD x dI).op = 12 ∨ (c.getD x dI).op = 13) → ∀ j : Nat, (j : Int) = (c.getD x dI).a → (marksTo c k).getD j true = true := by
  induction k with
  | zero => intro x hx; omega
  | succ k ih =>
    intro x hx hop j hj
    unfold marksTo
    by_cases h : x < k
    · exact mark1_get _ _ _ _ (ih x h hop j hj)
    · obtain rfl : x = k := by omega
      unfold mark1
      rcases hop with h1 | h1 | h1
      · rw [if_pos (Or.inl h1)]; exact setM_self _ _ _ hj
      · rw [if_pos (Or.inr h1)]; exact setM_self _ _ _ hj
      · rw [if_neg (by omega), if_pos h1]; exact setM_get _ _ _ (setM_self _ _ _ hj)
theorem marksTo_back (c : List Ins) (k : Nat) : ∀ x, x < k → (c.getD x dI).op = 13 → (marksTo c k).getD (x + 1) true = true := by
  induction k with
  | zero => intro x hx; omega
  | succ k ih =>
    intro x hx hop
    unfold marksTo
    by_cases h : x < k
    · exact mark1_get _ _ _ _ (ih x h hop)
    · obtain rfl : x = k := by omega
      unfold mark1
      rw [if_neg (by omega), if_pos hop]
      exact setM_self _ _ _ (by simp)
theorem marked (c : List Ins) : Marked c (marks c) := ⟨fun x hx => marksTo_goes c c.length x hx, fun x hx => marksTo_back c c.length x hx⟩

theorem getD_set (c : List Ins) (i j : Nat) (x : Ins) : (c.set i x).getD j dI = if i = j ∧ i < c.length then x else c.getD j dI := by
  rw [List.getD_eq_getElem?_getD, List.getElem?_set, List.getD_eq_getElem?_getD]
  by_cases h : i = j
  · subst h
    by_cases h2 : i < c.length
    · simp [h2]
    · simp [h2]
  · rw [if_neg h, if_neg (by omega)]

end Mc
end Go.Proofs.Ytpahhhhfhnpmjaa
