/-
  The plain mathematics of faces: items, what is right of them, how many different names there are; without the program.
-/
import Derived.Test.YtidhbgidkgopfaaPure
namespace Go.Proofs.Ytidhbgidkgopfaa

def fit64 (n : Int) : Prop := -9223372036854775808 ≤ n ∧ n ≤ 9223372036854775807
structure It where
  kind : Int
  n : Int
  at_ : Int
  name : ByteArray
structure Fc where
  name : ByteArray
  items : List It
def nameOk (s : ByteArray) : Bool := Lx.nameB s.data.toList
def numOkB (i : It) : Bool :=
  if i.kind = 1 then decide (0 ≤ i.n) && decide (i.n ≤ 1099511627775) && decide (i.at_ = 0)
  else if i.kind = 2 then decide (i.n = 0) && decide (0 ≤ i.at_) && decide (i.at_ ≤ 320)
  else if i.kind = 3 then decide (1 ≤ i.n) && decide (i.n ≤ 32) && decide (0 ≤ i.at_) && decide (i.at_ ≤ 320)
  else if i.kind = 4 then decide (0 ≤ i.n) && decide (i.n ≤ 3) && decide (0 ≤ i.at_) && decide (i.at_ ≤ 320)
  else false
def itemOk (i : It) : Bool := nameOk i.name && numOkB i
/- how many different ones -/
def uniqs : List (List UInt8) → List (List UInt8) := List.foldl (fun acc s => if s ∈ acc then acc else acc ++ [s]) []
def dupB (l : List (List UInt8)) : Bool := decide ((uniqs l).length < l.length)
theorem uniqs_snoc (l : List (List UInt8)) (s : List UInt8) : uniqs (l ++ [s]) = if s ∈ uniqs l then uniqs l else uniqs l ++ [s] := by
  unfold uniqs; rw [List.foldl_append]; rfl
theorem list_snoc_ind {α : Type} {p : List α → Prop} (h0 : p []) (h1 : ∀ l a, p l → p (l ++ [a])) : ∀ l, p l := by
  intro l
  have : ∀ n (l : List α), l.length = n → p l := by
    intro n
    induction n with
    | zero => intro l hl; rw [List.eq_nil_of_length_eq_zero hl]; exact h0
    | succ n ih =>
      intro l hl
      have hne : l ≠ [] := fun e => by rw [e] at hl; simp at hl
      rw [← List.dropLast_concat_getLast hne]
      exact h1 _ _ (ih _ (by rw [List.length_dropLast]; omega))
  exact this _ l rfl
theorem mem_uniqs (x : List UInt8) : ∀ l : List (List UInt8), x ∈ uniqs l ↔ x ∈ l := by
  apply list_snoc_ind
  · exact Iff.rfl
  · intro l a ih
    rw [uniqs_snoc]
    by_cases h : a ∈ uniqs l
    · rw [if_pos h]
      simp only [List.mem_append, List.mem_singleton]
      constructor
      · intro hx; exact Or.inl (ih.1 hx)
      · rintro (hx | rfl)
        · exact ih.2 hx
        · exact h
    · rw [if_neg h]
      simp only [List.mem_append, List.mem_singleton, ih]
theorem uniqs_len : ∀ l : List (List UInt8), (uniqs l).length ≤ l.length := by
  apply list_snoc_ind
  · exact Nat.le_refl _
  · intro l a ih
    rw [uniqs_snoc]
    split
    · rw [List.length_append]; simp; omega
    · rw [List.length_append, List.length_append]; simp; omega
theorem dup_snoc (l : List (List UInt8)) (s : List UInt8) : dupB (l ++ [s]) = (dupB l || decide (s ∈ l)) := by
  have h1 := uniqs_len l
  have h2 : (l ++ [s]).length = l.length + 1 := by simp
  unfold dupB
  rw [uniqs_snoc, h2]
  by_cases h : s ∈ uniqs l
  · rw [if_pos h, decide_eq_true ((mem_uniqs s l).1 h), Bool.or_true]
    exact decide_eq_true (by omega)
  · rw [if_neg h, decide_eq_false (fun e => h ((mem_uniqs s l).2 e)), Bool.or_false, show (uniqs l ++ [s]).length = (uniqs l).length + 1 from by simp]
    exact decide_eq_decide.2 (by omega)
theorem dup_nil : dupB [] = false := rfl
def namesOf (l : List It) : List (List UInt8) := l.map (·.name.data.toList)
def chkF (f : Fc) : Int :=
  if 16 < f.items.length then 2 else if nameOk f.name && !dupB (namesOf f.items) && f.items.all itemOk then 0 else 1
theorem chk_many {f : Fc} (h : 16 < f.items.length) : chkF f = 2 := if_pos h
theorem chk_name {f : Fc} (h : ¬ 16 < f.items.length) (h1 : nameOk f.name = false) : chkF f = 1 := by unfold chkF; rw [if_neg h, h1]; rfl
theorem chk_dup {f : Fc} (h : ¬ 16 < f.items.length) (h1 : dupB (namesOf f.items) = true) : chkF f = 1 := by unfold chkF; rw [if_neg h, h1]; simp
theorem chk_item {f : Fc} (h : ¬ 16 < f.items.length) (h1 : f.items.all itemOk = false) : chkF f = 1 := by unfold chkF; rw [if_neg h, h1]; simp
theorem chk_ok {f : Fc} (h : ¬ 16 < f.items.length) (h0 : nameOk f.name = true) (h1 : dupB (namesOf f.items) = false) (h2 : f.items.all itemOk = true) : chkF f = 0 := by unfold chkF; rw [if_neg h, h0, h1, h2]; rfl

end Go.Proofs.Ytidhbgidkgopfaa
