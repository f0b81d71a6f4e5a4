/-
  How declarations, procedures and modules are read, said without the program.
-/
import Derived.Test.YtndkhgakfodldaaGreatDoorPj
import Derived.Test.YtndkhgakfodldaaGreatDoorLexr
import Derived.Defers
import Derived.Recover
import Derived.Deep.RegionHeld3
import Derived.Deep.AppendLies
import Derived.Deep.RegionLaw
import Derived.Shelf.Abstract
namespace Go.Proofs.YtndkhgakfodldaaGreatDoor
open Go.RowKit Go.Shelf

def pubL (l : List Tk) : List Tk := if skB l tPub then l.tail else l
def pDecl (l : List Tk) : Option (De × List Tk) :=
  if skB (pubL l) tConst then (match pName (pubL l).tail with
    | none => none
    | some (n, l1) => if skB l1 tEq then (match pNum l1.tail with | none => none | some (k, l2) => if skB l2 tSem then some (⟨1, n, skB l tPub, k⟩, l2.tail) else none) else none)
  else if skB (pubL l) tVar then (match pName (pubL l).tail with
    | none => none
    | some (n, l1) => if skB l1 tSem then some (⟨2, n, skB l tPub, 0⟩, l1.tail) else none)
  else if skB (pubL l) tArray then (match pName (pubL l).tail with
    | none => none
    | some (n, l1) => if skB l1 tLs then (match pNum l1.tail with | none => none | some (k, l2) => if skB l2 tRs then (if skB l2.tail tSem then some (⟨3, n, skB l tPub, k⟩, l2.tail.tail) else none) else none) else none)
  else none
def pParams : Nat → List ByteArray → List Tk → Option (List ByteArray × List Tk)
  | 0, _, _ => none
  | f + 1, acc, l =>
    if skB l tCom then (match pName l.tail with | none => none | some (n, l1) => pParams f (acc ++ [n]) l1)
    else if skB l tRp then some (acc, l.tail) else none
/- 'local a ;' and 'use a ;', again and again -/
def pList (t : ByteArray) : Nat → List ByteArray → List Tk → Option (List ByteArray × List Tk)
  | 0, _, _ => none
  | f + 1, acc, l =>
    if skB l t then (match pName l.tail with | none => none | some (n, l1) => if skB l1 tSem then pList t f (acc ++ [n]) l1.tail else none)
    else some (acc, l)
def pPars (l : List Tk) : Option (List ByteArray × List Tk) :=
  if skB l tRp then some ([], l.tail) else (match pName l with | none => none | some (n, l1) => pParams (l1.length + 1) [n] l1)
def pProc (l : List Tk) : Option (Pr × List Tk) :=
  if skB (pubL l) tProc then (match pName (pubL l).tail with
    | none => none
    | some (n, l1) => if skB l1 tLp then (match pPars l1.tail with
      | none => none
      | some (ps, l2) => (match pList tLocal (l2.length + 1) [] l2 with
        | none => none
        | some (ls, l3) => (match pB l3 with | none => none | some (b, l4) => some (⟨n, skB l tPub, ps, ls, b⟩, l4)))) else none)
  else none
def declB (l : List Tk) : Bool :=
  let t := if skB l tPub then (l.getD 1 noTk).text else (hd l).text
  t.toList == tConst.toList || t.toList == tVar.toList || t.toList == tArray.toList
def pDecls : Nat → List De → List Tk → Option (List De × List Tk)
  | 0, _, _ => none
  | f + 1, acc, l => if declB l then (match pDecl l with | none => none | some (d, l1) => pDecls f (acc ++ [d]) l1) else some (acc, l)
def pProcs : Nat → List Pr → List Tk → Option (List Pr × List Tk)
  | 0, _, _ => none
  | f + 1, acc, l => if skB l tMain then some (acc, l.tail) else (match pProc l with | none => none | some (p, l1) => pProcs f (acc ++ [p]) l1)
def pModule (l : List Tk) : Option (Mo × List Tk) :=
  if skB l tModule then (match pName l.tail with
    | none => none
    | some (n, l1) => if skB l1 tLb then (match pList tUse (l1.tail.length + 1) [] l1.tail with
      | none => none
      | some (us, l2) => (match pDecls (l2.length + 1) [] l2 with
        | none => none
        | some (ds, l3) => (match pProcs (l3.length + 1) [] l3 with
          | none => none
          | some (ps, l4) => (match pB l4 with
            | none => none
            | some (b, l5) => if skB l5 tRb then some (⟨n, us, ds, ps, b⟩, l5.tail) else none)))) else none)
  else none

theorem pubL_le (l : List Tk) : (pubL l).length ≤ l.length := by
  unfold pubL; split
  · simp
  · exact Nat.le_refl _
theorem pDecl_lt {l l' : List Tk} {d : De} (h : pDecl l = some (d, l')) : l'.length < l.length := by
  have hp := pubL_le l
  unfold pDecl at h
  split at h
  · rename_i hs
    have := skB_lt (by decide) hs
    split at h
    · cases h
    rename_i n l1 h1
    have := pName_lt h1
    split at h
    · rename_i hs2
      have := skB_lt (by decide) hs2
      split at h
      · cases h
      rename_i k l2 h2
      have := pNum_lt h2
      split at h
      · rename_i hs3
        have := skB_lt (by decide) hs3
        obtain ⟨_, rfl⟩ := Prod.mk.inj (Option.some.inj h)
        omega
      · cases h
    · cases h
  split at h
  · rename_i hs
    have := skB_lt (by decide) hs
    split at h
    · cases h
    rename_i n l1 h1
    have := pName_lt h1
    split at h
    · rename_i hs3
      have := skB_lt (by decide) hs3
      obtain ⟨_, rfl⟩ := Prod.mk.inj (Option.some.inj h)
      omega
    · cases h
  split at h
  · rename_i hs
    have := skB_lt (by decide) hs
    split at h
    · cases h
    rename_i n l1 h1
    have := pName_lt h1
    split at h
    · rename_i hs2
      have := skB_lt (by decide) hs2
      split at h
      · cases h
      rename_i k l2 h2
      have := pNum_lt h2
      split at h
      · rename_i hs3
        have := skB_lt (by decide) hs3
        split at h
        · rename_i hs4
          have := skB_lt (by decide) hs4
          obtain ⟨_, rfl⟩ := Prod.mk.inj (Option.some.inj h)
          omega
        · cases h
      · cases h
    · cases h
  · cases h
theorem pParams_le : ∀ (f : Nat) (acc : List ByteArray) (l l' : List Tk) (x : List ByteArray), pParams f acc l = some (x, l') → l'.length ≤ l.length
  | 0, _, _, _, _, h => by simp [pParams] at h
  | f + 1, acc, l, l', x, h => by
    unfold pParams at h
    split at h
    · rename_i hs
      have := skB_lt (by decide) hs
      split at h
      · cases h
      rename_i n l1 h1
      have := pName_lt h1
      have := pParams_le f _ _ _ _ h
      omega
    split at h
    · rename_i hs
      have := skB_lt (by decide) hs
      obtain ⟨_, rfl⟩ := Prod.mk.inj (Option.some.inj h)
      omega
    · cases h
theorem pList_le (t : ByteArray) (ht : 0 < t.size) : ∀ (f : Nat) (acc : List ByteArray) (l l' : List Tk) (x : List ByteArray), pList t f acc l = some (x, l') → l'.length ≤ l.length
  | 0, _, _, _, _, h => by simp [pList] at h
  | f + 1, acc, l, l', x, h => by
    unfold pList at h
    split at h
    · rename_i hs
      have := skB_lt ht hs
      split at h
      · cases h
      rename_i n l1 h1
      have := pName_lt h1
      split at h
      · rename_i hs2
        have := skB_lt (by decide) hs2
        have := pList_le t ht f _ _ _ _ h
        omega
      · cases h
    · obtain ⟨_, rfl⟩ := Prod.mk.inj (Option.some.inj h)
      exact Nat.le_refl _
theorem pPars_le {l l' : List Tk} {x : List ByteArray} (h : pPars l = some (x, l')) : l'.length ≤ l.length := by
  unfold pPars at h
  split at h
  · rename_i hs
    have := skB_lt (by decide) hs
    obtain ⟨_, rfl⟩ := Prod.mk.inj (Option.some.inj h)
    omega
  split at h
  · cases h
  rename_i n l1 h1
  have := pName_lt h1
  have := pParams_le _ _ _ _ _ h
  omega
theorem pProc_lt {l l' : List Tk} {p : Pr} (h : pProc l = some (p, l')) : l'.length < l.length := by
  have hp := pubL_le l
  unfold pProc at h
  split at h
  · rename_i hs
    have := skB_lt (by decide) hs
    split at h
    · cases h
    rename_i n l1 h1
    have := pName_lt h1
    split at h
    · rename_i hs2
      have := skB_lt (by decide) hs2
      split at h
      · cases h
      rename_i ps l2 h2
      have := pPars_le h2
      split at h
      · cases h
      rename_i ls l3 h3
      have := pList_le _ (by decide) _ _ _ _ _ h3
      split at h
      · cases h
      rename_i b l4 h4
      have := pB_lt h4
      obtain ⟨_, rfl⟩ := Prod.mk.inj (Option.some.inj h)
      omega
    · cases h
  · cases h
end Go.Proofs.YtndkhgakfodldaaGreatDoor

namespace Go.Proofs.YtndkhgakfodldaaGreatDoor
open Go.RowKit Go.Shelf

section
variable {P : Program} {ops : Array Oper} {o : Oper} {a : Act} {w : World} {K : Act → World → Prop} {Q : Exit → Act → World → Prop} {E : Prop}
theorem run_call1 (f : FuncId) (x : Operand) (ty : TypeId) (ho : o.op = .call { callee := .value (.func f), args := #[x], argTypes := #[ty] })
    (hen : Enters P f) (v : Value) (hx : a.eval x = v) : (execOp a.eval o).run P w = .ok (.enter f #[v]) w := by
  have h := hen #[v] w
  have hf : a.eval (.func f) = .func (.func f) #[] #[] := rfl
  simp [execOp, ho, resolve, invoke, hx, hf, h, Deferred.ofValue]
theorem step_call1 (hgd : o.guard = none) (f : FuncId) (x : Operand) (ty : TypeId) (ho : o.op = .call { callee := .value (.func f), args := #[x], argTypes := #[ty] })
    (hen : Enters P f) (v : Value) (hx : a.eval x = v) (u : Value) {R : World → Prop} (hC : Calls P f #[v] w fun e w' => e = .returned u ∧ R w')
    (h : ∀ w', R w' → K (a.put o.dst u) w') : if Region.wanted o (yielded ops a.tmps) = true then Oper.wp P o a w K Q else E := by
  have hw : Region.wanted o (yielded ops a.tmps) = true := by simp [Region.wanted, hgd]
  rw [if_pos hw]
  unfold Oper.wp
  rw [run_call1 f x ty ho hen v hx, Oper.upon_enter]
  refine hC.mono ?_
  rintro e w' ⟨rfl, hR⟩
  exact h w' hR
theorem step_panic1 (hgd : o.guard = none) (f : FuncId) (x : Operand) (ty : TypeId) (ho : o.op = .call { callee := .value (.func f), args := #[x], argTypes := #[ty] })
    (hen : Enters P f) (v : Value) (hx : a.eval x = v) (c : List PanicEntry) {R : World → Prop} (hC : Calls P f #[v] w fun e w' => e = .panicked c ∧ R w')
    (h : ∀ w', R w' → Q (.panic c) a w') : if Region.wanted o (yielded ops a.tmps) = true then Oper.wp P o a w K Q else E := by
  have hw : Region.wanted o (yielded ops a.tmps) = true := by simp [Region.wanted, hgd]
  rw [if_pos hw]
  unfold Oper.wp
  rw [run_call1 f x ty ho hen v hx, Oper.upon_enter]
  refine hC.mono ?_
  rintro e w' ⟨rfl, hR⟩
  exact h w' hR
end

theorem leaves_same {P : Program} {fn : Func} {t1 t2 : Array Value} {R : Ending → World → Prop} (h : results fn t1 = results fn t2) :
    ∀ (ds : List Deferred) (u : FrameMode) (w : World), Leaves P fn t1 R ds u w → Leaves P fn t2 R ds u w
  | [], .returning, w, hl => by simpa only [Leaves, h] using hl
  | [], .panicking _, _, hl => hl
  | [], .run, _, hl => hl
  | d :: ds, u, w, hl => by
    obtain ⟨h1, fv, cap, f, args, h2, h3, h4⟩ := hl
    refine ⟨h1, fv, cap, f, args, h2, h3, h4.mono ?_⟩
    intro e u' w' h5
    cases e with
    | returned v => exact leaves_same h ds _ w' h5
    | panicked c => exact leaves_same h ds _ w' h5
    | outgrown => exact h5
theorem results23_put (t : Array Value) (d : Nat) (v : Value) (h2 : d ≠ 2) (h3 : d ≠ 3) : results Tryz.f157 (t.setIfInBounds d v) = results Tryz.f157 t := by
  unfold results
  rw [Tryz.results157]
  simp [Array.getElem?_setIfInBounds, h2, h3]
theorem post23_put {R : Ending → World → Prop} (d : Nat) (v : Value) (h2 : d ≠ 2) (h3 : d ≠ 3) (c : List PanicEntry) (a : Act) (w : World)
    (h : bodyPostD Tryz.prog Tryz.f157 R (.panic c) (a.put (some d) v) w) : bodyPostD Tryz.prog Tryz.f157 R (.panic c) a w :=
  leaves_same (results23_put a.tmps d v h2 h3) _ _ _ h

end Go.Proofs.YtndkhgakfodldaaGreatDoor
