/-
  How declarations, procedures and modules are read, said without the program.
-/
import Derived.Test.YtcekpobmbmnplaaGreatDoorPj
import Derived.Test.YtcekpobmbmnplaaGreatDoorLexr
import Derived.Defers
import Derived.Recover
import Derived.Deep.RegionHeld3
import Derived.Deep.AppendLies
import Derived.Deep.RegionLaw
import Derived.Shelf.Abstract
import Derived.Deep.QuietTactic
import Derived.BigQuiet
import Derived.Test.YtcekpobmbmnplaaGreatDoorTd
namespace Go.Proofs.YtcekpobmbmnplaaGreatDoor
open Go.RowKit Go.Shelf

def pubL (l : List Tk) : List Tk := if skB l tPub then l.tail else l
def pDecl (l : List Tk) : Option (De × List Tk) :=
  if skB (pubL l) tConst then (match pName (pubL l).tail with
    | none => none
    | some (n, l1) => if skB l1 tEq then (match pNum l1.tail with | none => none | some (k, l2) => if skB l2 tSem then some (⟨1, n, skB l tPub, k⟩, l2.tail) else none) else none)
  else if skB (pubL l) tVar then (match pName (pubL l).tail with
    | none => none
    | some (n, l1) => if skB l1 tSem then some (⟨2, n, skB l tPub, 0⟩, l1.tail) else none)
  else if skB (pubL l) tArray then (match pName (pubL l).tail with
    | none => none
    | some (n, l1) => if skB l1 tLs then (match pNum l1.tail with | none => none | some (k, l2) => if skB l2 tRs then (if skB l2.tail tSem then some (⟨3, n, skB l tPub, k⟩, l2.tail.tail) else none) else none) else none)
  else none
def pParams : Nat → List ByteArray → List Tk → Option (List ByteArray × List Tk)
  | 0, _, _ => none
  | f + 1, acc, l =>
    if skB l tCom then (match pName l.tail with | none => none | some (n, l1) => pParams f (acc ++ [n]) l1)
    else if skB l tRp then some (acc, l.tail) else none
/- 'local a ;' and 'use a ;', again and again -/
def pList (t : ByteArray) : Nat → List ByteArray → List Tk → Option (List ByteArray × List Tk)
  | 0, _, _ => none
  | f + 1, acc, l =>
    if skB l t then (match pName l.tail with | none => none | some (n, l1) => if skB l1 tSem then pList t f (acc ++ [n]) l1.tail else none)
    else some (acc, l)
def pPars (l : List Tk) : Option (List ByteArray × List Tk) :=
  if skB l tRp then some ([], l.tail) else (match pName l with | none => none | some (n, l1) => pParams (l1.length + 1) [n] l1)
def pProc (l : List Tk) : Option (Pr × List Tk) :=
  if skB (pubL l) tProc then (match pName (pubL l).tail with
    | none => none
    | some (n, l1) => if skB l1 tLp then (match pPars l1.tail with
      | none => none
      | some (ps, l2) => (match pList tLocal (l2.length + 1) [] l2 with
        | none => none
        | some (ls, l3) => (match pB l3 with | none => none | some (b, l4) => some (⟨n, skB l tPub, ps, ls, b⟩, l4)))) else none)
  else none
def declB (l : List Tk) : Bool :=
  let t := if skB l tPub then (l.getD 1 noTk).text else (hd l).text
  t.toList == tConst.toList || t.toList == tVar.toList || t.toList == tArray.toList
def pDecls : Nat → List De → List Tk → Option (List De × List Tk)
  | 0, _, _ => none
  | f + 1, acc, l => if declB l then (match pDecl l with | none => none | some (d, l1) => pDecls f (acc ++ [d]) l1) else some (acc, l)
def pProcs : Nat → List Pr → List Tk → Option (List Pr × List Tk)
  | 0, _, _ => none
  | f + 1, acc, l => if skB l tMain then some (acc, l.tail) else (match pProc l with | none => none | some (p, l1) => pProcs f (acc ++ [p]) l1)
def pModule (l : List Tk) : Option (Mo × List Tk) :=
  if skB l tModule then (match pName l.tail with
    | none => none
    | some (n, l1) => if skB l1 tLb then (match pList tUse (l1.tail.length + 1) [] l1.tail with
      | none => none
      | some (us, l2) => (match pDecls (l2.length + 1) [] l2 with
        | none => none
        | some (ds, l3) => (match pProcs (l3.length + 1) [] l3 with
          | none => none
          | some (ps, l4) => (match pB l4 with
            | none => none
            | some (b, l5) => if skB l5 tRb then some (⟨n, us, ds, ps, b⟩, l5.tail) else none)))) else none)
  else none

theorem pubL_le (l : List Tk) : (pubL l).length ≤ l.length := by
  unfold pubL; split
  · simp
  · exact Nat.le_refl _
theorem pDecl_lt {l l' : List Tk} {d : De} (h : pDecl l = some (d, l')) : l'.length < l.length := by
  have hp := pubL_le l
  unfold pDecl at h
  split at h
  · rename_i hs
    have := skB_lt (by decide) hs
    split at h
    · cases h
    rename_i n l1 h1
    have := pName_lt h1
    split at h
    · rename_i hs2
      have := skB_lt (by decide) hs2
      split at h
      · cases h
      rename_i k l2 h2
      have := pNum_lt h2
      split at h
      · rename_i hs3
        have := skB_lt (by decide) hs3
        obtain ⟨_, rfl⟩ := Prod.mk.inj (Option.some.inj h)
        omega
      · cases h
    · cases h
  split at h
  · rename_i hs
    have := skB_lt (by decide) hs
    split at h
    · cases h
    rename_i n l1 h1
    have := pName_lt h1
    split at h
    · rename_i hs3
      have := skB_lt (by decide) hs3
      obtain ⟨_, rfl⟩ := Prod.mk.inj (Option.some.inj h)
      omega
    · cases h
  split at h
  · rename_i hs
    have := skB_lt (by decide) hs
    split at h
    · cases h
    rename_i n l1 h1
    have := pName_lt h1
    split at h
    · rename_i hs2
      have := skB_lt (by decide) hs2
      split at h
      · cases h
      rename_i k l2 h2
      have := pNum_lt h2
      split at h
      · rename_i hs3
        have := skB_lt (by decide) hs3
        split at h
        · rename_i hs4
          have := skB_lt (by decide) hs4
          obtain ⟨_, rfl⟩ := Prod.mk.inj (Option.some.inj h)
          omega
        · cases h
      · cases h
    · cases h
  · cases h
theorem pParams_le : ∀ (f : Nat) (acc : List ByteArray) (l l' : List Tk) (x : List ByteArray), pParams f acc l = some (x, l') → l'.length ≤ l.length
  | 0, _, _, _, _, h => by simp [pParams] at h
  | f + 1, acc, l, l', x, h => by
    unfold pParams at h
    split at h
    · rename_i hs
      have := skB_lt (by decide) hs
      split at h
      · cases h
      rename_i n l1 h1
      have := pName_lt h1
      have := pParams_le f _ _ _ _ h
      omega
    split at h
    · rename_i hs
      have := skB_lt (by decide) hs
      obtain ⟨_, rfl⟩ := Prod.mk.inj (Option.some.inj h)
      omega
    · cases h
theorem pList_le (t : ByteArray) (ht : 0 < t.size) : ∀ (f : Nat) (acc : List ByteArray) (l l' : List Tk) (x : List ByteArray), pList t f acc l = some (x, l') → l'.length ≤ l.length
  | 0, _, _, _, _, h => by simp [pList] at h
  | f + 1, acc, l, l', x, h => by
    unfold pList at h
    split at h
    · rename_i hs
      have := skB_lt ht hs
      split at h
      · cases h
      rename_i n l1 h1
      have := pName_lt h1
      split at h
      · rename_i hs2
        have := skB_lt (by decide) hs2
        have := pList_le t ht f _ _ _ _ h
        omega
      · cases h
    · obtain ⟨_, rfl⟩ := Prod.mk.inj (Option.some.inj h)
      exact Nat.le_refl _
theorem pPars_le {l l' : List Tk} {x : List ByteArray} (h : pPars l = some (x, l')) : l'.length ≤ l.length := by
  unfold pPars at h
  split at h
  · rename_i hs
    have := skB_lt (by decide) hs
    obtain ⟨_, rfl⟩ := Prod.mk.inj (Option.some.inj h)
    omega
  split at h
  · cases h
  rename_i n l1 h1
  have := pName_lt h1
  have := pParams_le _ _ _ _ _ h
  omega
theorem pProc_lt {l l' : List Tk} {p : Pr} (h : pProc l = some (p, l')) : l'.length < l.length := by
  have hp := pubL_le l
  unfold pProc at h
  split at h
  · rename_i hs
    have := skB_lt (by decide) hs
    split at h
    · cases h
    rename_i n l1 h1
    have := pName_lt h1
    split at h
    · rename_i hs2
      have := skB_lt (by decide) hs2
      split at h
      · cases h
      rename_i ps l2 h2
      have := pPars_le h2
      split at h
      · cases h
      rename_i ls l3 h3
      have := pList_le _ (by decide) _ _ _ _ _ h3
      split at h
      · cases h
      rename_i b l4 h4
      have := pB_lt h4
      obtain ⟨_, rfl⟩ := Prod.mk.inj (Option.some.inj h)
      omega
    · cases h
  · cases h
theorem pDecls_le : ∀ (f : Nat) (acc : List De) (l l' : List Tk) (x : List De), pDecls f acc l = some (x, l') → l'.length ≤ l.length
  | 0, _, _, _, _, h => by simp [pDecls] at h
  | f + 1, acc, l, l', x, h => by
    unfold pDecls at h
    split at h
    · split at h
      · cases h
      rename_i d l1 h1
      have := pDecl_lt h1
      have := pDecls_le f _ _ _ _ h
      omega
    · obtain ⟨_, rfl⟩ := Prod.mk.inj (Option.some.inj h)
      exact Nat.le_refl _
theorem pProcs_lt : ∀ (f : Nat) (acc : List Pr) (l l' : List Tk) (x : List Pr), pProcs f acc l = some (x, l') → l'.length < l.length
  | 0, _, _, _, _, h => by simp [pProcs] at h
  | f + 1, acc, l, l', x, h => by
    unfold pProcs at h
    split at h
    · rename_i hs
      obtain ⟨_, rfl⟩ := Prod.mk.inj (Option.some.inj h)
      exact skB_lt (by decide) hs
    · split at h
      · cases h
      rename_i d l1 h1
      have := pProc_lt h1
      have := pProcs_lt f _ _ _ _ h
      omega

end Go.Proofs.YtcekpobmbmnplaaGreatDoor

namespace Go.Proofs.YtcekpobmbmnplaaGreatDoor
open Go.RowKit Go.Shelf

section
variable {P : Program} {ops : Array Oper} {o : Oper} {a : Act} {w : World} {K : Act → World → Prop} {Q : Exit → Act → World → Prop} {E : Prop}
theorem run_call1 (f : FuncId) (x : Operand) (ty : TypeId) (ho : o.op = .call { callee := .value (.func f), args := #[x], argTypes := #[ty] })
    (hen : Enters P f) (v : Value) (hx : a.eval x = v) : (execOp a.eval o).run P w = .ok (.enter f #[v]) w := by
  have h := hen #[v] w
  have hf : a.eval (.func f) = .func (.func f) #[] #[] := rfl
  simp [execOp, ho, resolve, invoke, hx, hf, h, Deferred.ofValue]
theorem step_call1 (hgd : o.guard = none) (f : FuncId) (x : Operand) (ty : TypeId) (ho : o.op = .call { callee := .value (.func f), args := #[x], argTypes := #[ty] })
    (hen : Enters P f) (v : Value) (hx : a.eval x = v) (u : Value) {R : World → Prop} (hC : Calls P f #[v] w fun e w' => e = .returned u ∧ R w')
    (h : ∀ w', R w' → K (a.put o.dst u) w') : if Region.wanted o (yielded ops a.tmps) = true then Oper.wp P o a w K Q else E := by
  have hw : Region.wanted o (yielded ops a.tmps) = true := by simp [Region.wanted, hgd]
  rw [if_pos hw]
  unfold Oper.wp
  rw [run_call1 f x ty ho hen v hx, Oper.upon_enter]
  refine hC.mono ?_
  rintro e w' ⟨rfl, hR⟩
  exact h w' hR
theorem step_panic1 (hgd : o.guard = none) (f : FuncId) (x : Operand) (ty : TypeId) (ho : o.op = .call { callee := .value (.func f), args := #[x], argTypes := #[ty] })
    (hen : Enters P f) (v : Value) (hx : a.eval x = v) (c : List PanicEntry) {R : World → Prop} (hC : Calls P f #[v] w fun e w' => e = .panicked c ∧ R w')
    (h : ∀ w', R w' → Q (.panic c) a w') : if Region.wanted o (yielded ops a.tmps) = true then Oper.wp P o a w K Q else E := by
  have hw : Region.wanted o (yielded ops a.tmps) = true := by simp [Region.wanted, hgd]
  rw [if_pos hw]
  unfold Oper.wp
  rw [run_call1 f x ty ho hen v hx, Oper.upon_enter]
  refine hC.mono ?_
  rintro e w' ⟨rfl, hR⟩
  exact h w' hR
end

theorem leaves_same {P : Program} {fn : Func} {t1 t2 : Array Value} {R : Ending → World → Prop} (h : results fn t1 = results fn t2) :
    ∀ (ds : List Deferred) (u : FrameMode) (w : World), Leaves P fn t1 R ds u w → Leaves P fn t2 R ds u w
  | [], .returning, w, hl => by simpa only [Leaves, h] using hl
  | [], .panicking _, _, hl => hl
  | [], .run, _, hl => hl
  | d :: ds, u, w, hl => by
    obtain ⟨h1, fv, cap, f, args, h2, h3, h4⟩ := hl
    refine ⟨h1, fv, cap, f, args, h2, h3, h4.mono ?_⟩
    intro e u' w' h5
    cases e with
    | returned v => exact leaves_same h ds _ w' h5
    | panicked c => exact leaves_same h ds _ w' h5
    | outgrown => exact h5
theorem results23_put (t : Array Value) (d : Nat) (v : Value) (h2 : d ≠ 2) (h3 : d ≠ 3) : results Tryz.f30 (t.setIfInBounds d v) = results Tryz.f30 t := by
  unfold results
  rw [Tryz.results30]
  simp [Array.getElem?_setIfInBounds, h2, h3]
theorem post23_put {R : Ending → World → Prop} (d : Nat) (v : Value) (h2 : d ≠ 2) (h3 : d ≠ 3) (c : List PanicEntry) (a : Act) (w : World)
    (h : bodyPostD Tryz.prog Tryz.f30 R (.panic c) (a.put (some d) v) w) : bodyPostD Tryz.prog Tryz.f30 R (.panic c) a w :=
  leaves_same (results23_put a.tmps d v h2 h3) _ _ _ h

end Go.Proofs.YtcekpobmbmnplaaGreatDoor

namespace Go.Proofs.YtcekpobmbmnplaaGreatDoor
open Go.RowKit

theorem en36 : Enters Tryz.prog 66 := enters_of Tryz.func66 (by kernel_rfl) rfl
theorem en35 : Enters Tryz.prog 65 := enters_of Tryz.func65 (by kernel_rfl) rfl
theorem catch_panicking (b : Nat) (x : Value) (y : Int) (u : TypeId) (pv : Value) (older : List PanicEntry) (w : World)
    (hc : w.cell? ⟨b, 0, none⟩ = some x) (hz : w.frozen? ⟨b, 0, none⟩ = false) (hd : w.cell? ⟨b + 1, 0, none⟩ = some (.int .i64 y)) (hy : w.frozen? ⟨b + 1, 0, none⟩ = false) :
    CallsD Tryz.prog 63 #[.pointer (some ⟨b, 0, none⟩), .pointer (some ⟨b + 1, 0, none⟩)] (.panicking ({ v := .iface u pv, recovered := false } :: older)) w fun e u' w' =>
      e = .returned (.tuple #[]) ∧ u' = .panicking ({ v := .iface u pv, recovered := true } :: older) ∧ w' = (w.setCell ⟨b, 0, none⟩ (.slice none 0 0)).setCell ⟨b + 1, 0, none⟩ (.int .i64 1) := by
  have hd2 : (w.setCell ⟨b, 0, none⟩ (.slice none 0 0)).cell? ⟨b + 1, 0, none⟩ = some (.int .i64 y) := by
    rw [World.cell?_setCell_other _ _ _ _ (by simp)]; exact hd
  have hy2 : (w.setCell ⟨b, 0, none⟩ (.slice none 0 0)).frozen? ⟨b + 1, 0, none⟩ = false := by
    simpa using hy
  refine callsD_of_wpS Tryz.func63 rfl fun c₀ cs hu => ?_
  apply wpS_seq
  apply wpS_region
  simp [wpOpsS, go_sem, recoverD, hu, Tryz.ntmps63, Exit.thenS]
  refine wpS_cond (t := true) (by simp [Act.eval, Array.replicate]) ?_
  simp only [if_true]
  apply wpS_region
  simp [wpOpsS, go_sem, hc, hz, hd2, hy2, bodyPostS, results, Tryz.results63]

theorem catch_idle (p q : Addr) (w : World) :
    CallsD Tryz.prog 63 #[.pointer (some p), .pointer (some q)] .returning w fun e u' w' => e = .returned (.tuple #[]) ∧ u' = .returning ∧ w' = w := by
  refine callsD_of_wpS Tryz.func63 rfl fun c₀ cs hu => ?_
  apply wpS_seq
  apply wpS_region
  simp [wpOpsS, go_sem, recoverD, hu, Tryz.ntmps63, Exit.thenS]
  refine wpS_cond (t := false) (by simp [Act.eval, Array.replicate]) ?_
  simp only [Bool.false_eq_true, if_false]
  refine wpS_of_wp (wp_skip ?_)
  cases c₀
  simp_all [bodyPostS, results, Tryz.results63]

/- What the loop keeps of memory: w as the call began, W as it is; the list lies in the first new cell, the error in the second. -/
structure TokWorld (w W : World) (v : Value) (ts : List Tk) : Prop where
  below : Below w.heap.size w W
  size : w.heap.size + 2 ≤ W.heap.size
  cell : W.cell? ⟨w.heap.size, 0, none⟩ = some v
  free : W.frozen? ⟨w.heap.size, 0, none⟩ = false
  ecell : W.cell? ⟨w.heap.size + 1, 0, none⟩ = some (.int .i64 0)
  efree : W.frozen? ⟨w.heap.size + 1, 0, none⟩ = false
  own : W.ownsRow (w.heap.size + 2) 68 3 v ts.length (cellsOf ts)
theorem TokWorld.start (w : World) : TokWorld w ((w.alloc (Obj.cells #[Value.slice none 0 0] 38)).alloc (Obj.cells #[Value.int IntKind.i64 0] 29)) (.slice none 0 0) [] where
  below := ((Below.refl _ _).alloc (Nat.le_refl _) _).alloc (by simp) _
  size := by simp
  cell := by simp [go_sem]
  free := by simp [go_sem]
  ecell := by simp [go_sem]
  efree := by simp [go_sem]
  own := World.ownsRow_nil _ _ _ _
theorem TokWorld.later {w W W' : World} {v : Value} {ts : List Tk} (h : TokWorld w W v ts) (hb : Below W.heap.size W W') : TokWorld w W' v ts where
  below := h.below.trans (hb.mono h.below.size)
  size := Nat.le_trans h.size hb.size
  cell := (hb.cell (p := ⟨w.heap.size, 0, none⟩) (by have := h.size; show w.heap.size < _; omega)).trans h.cell
  free := (hb.frozen (p := ⟨w.heap.size, 0, none⟩) (by have := h.size; show w.heap.size < _; omega)).trans h.free
  ecell := (hb.cell (p := ⟨w.heap.size + 1, 0, none⟩) (by have := h.size; show w.heap.size + 1 < _; omega)).trans h.ecell
  efree := (hb.frozen (p := ⟨w.heap.size + 1, 0, none⟩) (by have := h.size; show w.heap.size + 1 < _; omega)).trans h.efree
  own := ownsRow_later h.own hb

theorem tokOf_fits {s : ByteArray} {t : Tk} (h : tokOf s = some t) (hs : s.size ≤ maxLen) : t.fits := by
  unfold tokOf at h
  unfold Tk.fits
  split at h
  · cases h; exact hs
  · split at h
    · cases h; exact hs
    · split at h
      · cases h; exact Nat.zero_le _
      · cases h
theorem TokWorld.drewT {w W : World} {v : Value} {ts : List Tk} (h : TokWorld w W v ts) : TokWorld w W.drew v ts :=
  ⟨h.below.drew, h.size, h.cell, h.free, h.ecell, h.efree, h.own⟩
theorem TokWorld.allocT {w W : World} {v : Value} {ts : List Tk} (h : TokWorld w W v ts) (o : Obj) : TokWorld w (W.alloc o) v ts :=
  h.later ((Below.refl _ _).alloc (Nat.le_refl _) _)
theorem TokWorld.notOwn {w W : World} {v : Value} {ts : List Tk} (h : TokWorld w W v ts) (b : Nat) (hb : b < w.heap.size + 2) : some b ≠ v.ownBlock := by
  intro e
  have := (h.own.lt b e.symm).1
  omega
/- behind the append, and behind the store of what it made -/
theorem TokWorld.grown {w W W' : World} {v v' : Value} {ts : List Tk} {t : Tk} (h : TokWorld w W v ts) (hg : W.grownBy W' v.ownBlock) (ho : W'.ownsRow (w.heap.size + 2) 68 3 v' (ts.length + 1) (cellsOf ts ++ tkCells t)) :
    W'.cell? ⟨w.heap.size, 0, none⟩ = some v ∧ W'.frozen? ⟨w.heap.size, 0, none⟩ = false ∧ TokWorld w (W'.setCell ⟨w.heap.size, 0, none⟩ v') v' (ts ++ [t]) := by
  have hsz := h.size
  have c0 := (hg.cell_far ⟨w.heap.size, 0, none⟩ (by show w.heap.size < _; omega) (h.notOwn w.heap.size (by omega))).trans h.cell
  have f0 := (hg.frozen_far ⟨w.heap.size, 0, none⟩ (by show w.heap.size < _; omega) (h.notOwn w.heap.size (by omega))).trans h.free
  have c1 := (hg.cell_far ⟨w.heap.size + 1, 0, none⟩ (by show w.heap.size + 1 < _; omega) (h.notOwn (w.heap.size + 1) (by omega))).trans h.ecell
  have f1 := (hg.frozen_far ⟨w.heap.size + 1, 0, none⟩ (by show w.heap.size + 1 < _; omega) (h.notOwn (w.heap.size + 1) (by omega))).trans h.efree
  have hb : Below w.heap.size w W' := h.below.grown hg h.below.size (fun k hk => by have := (h.own.lt k hk).1; omega)
  have hs' : W.heap.size ≤ W'.heap.size := hg.size
  refine ⟨c0, f0, ?_⟩
  exact {
    below := hb.setCell (p := ⟨w.heap.size, 0, none⟩) (Nat.le_refl _) _
    size := by
      show w.heap.size + 2 ≤ (W'.setCell ⟨w.heap.size, 0, none⟩ v').heap.size
      rw [World.size_setCell]
      omega
    cell := World.cell?_setCell_same _ _ _ (by rw [c0])
    free := by rw [World.frozen?_setCell]; exact f0
    ecell := by rw [World.cell?_setCell_other _ _ _ _ (by simp)]; exact c1
    efree := by rw [World.frozen?_setCell]; exact f1
    own := by
      rw [cellsOf_snoc, List.length_append]
      exact ownsRow_setCell_below ho (by show w.heap.size < _; omega) _ }

/- behind the last round: what is returned, and what lies in memory -/
theorem TokWorld.leave {w W : World} {a : Option Addr} {cap : Nat} {ts : List Tk} (h : TokWorld w W (.slice a ts.length cap) ts) (hf : AllFit ts) :
    (∀ t : Array Value, t.getD 2 undef = .pointer (some ⟨w.heap.size, 0, none⟩) → t.getD 3 undef = .pointer (some ⟨w.heap.size + 1, 0, none⟩) →
      (results Tryz.f30 t).run Tryz.prog ((W.setCell ⟨w.heap.size, 0, none⟩ (.slice a ts.length cap)).setCell ⟨w.heap.size + 1, 0, none⟩ (.int .i64 0)) =
        .ok (.tuple #[.slice a ts.length cap, .int .i64 0]) ((W.setCell ⟨w.heap.size, 0, none⟩ (.slice a ts.length cap)).setCell ⟨w.heap.size + 1, 0, none⟩ (.int .i64 0))) ∧
    ToksAt ((W.setCell ⟨w.heap.size, 0, none⟩ (.slice a ts.length cap)).setCell ⟨w.heap.size + 1, 0, none⟩ (.int .i64 0)) a ts ∧
    Below w.heap.size w ((W.setCell ⟨w.heap.size, 0, none⟩ (.slice a ts.length cap)).setCell ⟨w.heap.size + 1, 0, none⟩ (.int .i64 0)) := by
  have c0 : ((W.setCell ⟨w.heap.size, 0, none⟩ (.slice a ts.length cap)).setCell ⟨w.heap.size + 1, 0, none⟩ (.int .i64 0)).cell? ⟨w.heap.size, 0, none⟩ = some (.slice a ts.length cap) := by
    rw [World.cell?_setCell_other _ _ _ _ (by simp)]
    exact World.cell?_setCell_same _ _ _ (by rw [h.cell])
  have c1 : ((W.setCell ⟨w.heap.size, 0, none⟩ (.slice a ts.length cap)).setCell ⟨w.heap.size + 1, 0, none⟩ (.int .i64 0)).cell? ⟨w.heap.size + 1, 0, none⟩ = some (.int .i64 0) := by
    refine World.cell?_setCell_same (u := .int .i64 0) _ _ _ ?_
    rw [World.cell?_setCell_other _ _ _ _ (by simp), h.ecell]
  have own : ((W.setCell ⟨w.heap.size, 0, none⟩ (.slice a ts.length cap)).setCell ⟨w.heap.size + 1, 0, none⟩ (.int .i64 0)).ownsRow (w.heap.size + 2) 68 3 (.slice a ts.length cap) ts.length (cellsOf ts) :=
    ownsRow_setCell_below (ownsRow_setCell_below h.own (by show w.heap.size < _; omega) _) (by show w.heap.size + 1 < _; omega) _
  refine ⟨?_, ?_, (h.below.setCell (p := ⟨w.heap.size, 0, none⟩) (Nat.le_refl _) _).setCell (p := ⟨w.heap.size + 1, 0, none⟩) (Nat.le_succ _) _⟩
  · intro t h2 h3
    generalize ((W.setCell ⟨w.heap.size, 0, none⟩ (.slice a ts.length cap)).setCell ⟨w.heap.size + 1, 0, none⟩ (.int .i64 0)) = X at *
    have h2' : t[2]?.getD undef = .pointer (some ⟨w.heap.size, 0, none⟩) := by simpa using h2
    have h3' : t[3]?.getD undef = .pointer (some ⟨w.heap.size + 1, 0, none⟩) := by simpa using h3
    simp [results, Tryz.results30, go_sem, h2', h3', c0, c1]
  · obtain ⟨a', cap', hv, hT⟩ := owned_toks own hf
    cases hv
    exact hT

/- behind a panic: the deferred call recovers it, and there are no tokens -/
theorem TokWorld.caught {w W : World} {v : Value} {ts : List Tk} (h : TokWorld w W v ts) {R : Ending → World → Prop} (t : Array Value)
    (h2 : t.getD 2 undef = .pointer (some ⟨w.heap.size, 0, none⟩)) (h3 : t.getD 3 undef = .pointer (some ⟨w.heap.size + 1, 0, none⟩))
    (hR : ∀ W', Below w.heap.size w W' → R (.returned (.tuple #[.slice none 0 0, .int .i64 1])) W') :
    Leaves Tryz.prog Tryz.f30 t R [{ target := Target.fn (Fn.func 63) #[Value.pointer (some ⟨w.heap.size, 0, none⟩), Value.pointer (some ⟨w.heap.size + 1, 0, none⟩)], args := #[] }] (.panicking errPanic) W := by
  refine leaves_cons (f := 63) (args := #[.pointer (some ⟨w.heap.size, 0, none⟩), .pointer (some ⟨w.heap.size + 1, 0, none⟩)]) (by simp) (by simp [go_sem]) ?_
  refine (catch_panicking w.heap.size v 0 29 (.int .i64 1) [] _ h.cell h.free h.ecell h.efree).mono ?_
  rintro e u' w'' ⟨rfl, rfl, rfl⟩
  have c0 : ((W.setCell ⟨w.heap.size, 0, none⟩ (.slice none 0 0)).setCell ⟨w.heap.size + 1, 0, none⟩ (.int .i64 1)).cell? ⟨w.heap.size, 0, none⟩ = some (.slice none 0 0) := by
    rw [World.cell?_setCell_other _ _ _ _ (by simp)]
    exact World.cell?_setCell_same _ _ _ (by rw [h.cell])
  have c1 : ((W.setCell ⟨w.heap.size, 0, none⟩ (.slice none 0 0)).setCell ⟨w.heap.size + 1, 0, none⟩ (.int .i64 1)).cell? ⟨w.heap.size + 1, 0, none⟩ = some (.int .i64 1) := by
    refine World.cell?_setCell_same (u := .int .i64 0) _ _ _ ?_
    rw [World.cell?_setCell_other _ _ _ _ (by simp), h.ecell]
  have hb : Below w.heap.size w ((W.setCell ⟨w.heap.size, 0, none⟩ (.slice none 0 0)).setCell ⟨w.heap.size + 1, 0, none⟩ (.int .i64 1)) :=
    (h.below.setCell (p := ⟨w.heap.size, 0, none⟩) (Nat.le_refl _) _).setCell (p := ⟨w.heap.size + 1, 0, none⟩) (Nat.le_succ _) _
  generalize ((W.setCell ⟨w.heap.size, 0, none⟩ (.slice none 0 0)).setCell ⟨w.heap.size + 1, 0, none⟩ (.int .i64 1)) = X at *
  have h2' : t[2]?.getD undef = .pointer (some ⟨w.heap.size, 0, none⟩) := by simpa using h2
  have h3' : t[3]?.getD undef = .pointer (some ⟨w.heap.size + 1, 0, none⟩) := by simpa using h3
  refine ⟨.tuple #[.slice none 0 0, .int .i64 1], ?_, hR X hb⟩
  simp [results, Tryz.results30, go_sem, h2', h3', c0, c1]

set_option maxRecDepth 100000 in
set_option maxHeartbeats 1000000 in
theorem tokens_any (s : ByteArray) (w : World) (hs : s.size ≤ 4096) :
    Calls Tryz.prog 30 #[.string s] w fun e w' => ∃ a cap, e = .returned (.tuple #[.slice a (lexT s).length cap, .int .i64 (lexE s)]) ∧ ToksAt w' a (lexT s) ∧ Below w.heap.size w w' := by
  obtain ⟨i0, hi, hz0, hz1, hz2⟩ := info_parts Tryz.infoTok
  have hmf : ∀ (fn : Fn) (first cap : Array Value) (w : World), (Instr.makeFunc fn first cap).run Tryz.prog w = .ok (.func fn first cap) w := fun _ _ _ _ => rfl
  go_enter_defers Tryz.func30, Tryz.ntmps30
  go_wp2_with fail
  go_loopw [4, 5] (fun i _ wr => ∃ (k : Nat) (ts : List Tk) (v : Value), k ≤ s.size ∧ i = .int .i64 k ∧ LexInv s k ts ∧ AllFit ts ∧ ts.length ≤ k ∧ TokWorld w wr v ts) (fun i _ _ => s.size - (intOf i).toNat)
  case atStart => exact ⟨0, [], .slice none 0 0, Nat.zero_le _, rfl, LexInv.start s, AllFit.nil, Nat.le_refl _, TokWorld.start w⟩
  case round =>
    obtain ⟨k, ts, v, hk, rfl, hinv, hfit, hlen, htw⟩ := hrel
    have HI : Hid (LexInv s k ts) := hinv
    have HF : Hid (AllFit ts) := hfit
    obtain ⟨a, cap, rfl⟩ : ∃ a cap, v = .slice a ts.length cap := by
      rcases htw.own.2 with ⟨h1, h2⟩ | ⟨g, cap, cur, h1, _⟩
      · exact ⟨none, 0, by rw [h2]; exact h1⟩
      · exact ⟨_, _, h1⟩
    have HW : Hid (TokWorld w wr (.slice a ts.length cap) ts) := htw
    have hc := htw.cell
    have hf := htw.free
    have hec := htw.ecell
    have hef := htw.efree
    clear hinv hfit htw
    by_cases hlt : k < s.size
    · have HP : Hid (∀ w : World, Calls Tryz.prog 64 #[.string s, .int .i64 k] w fun e w' => e = .returned (.int .i64 ((k + Lx.pieceN s k : Nat) : Int)) ∧ w' = w) := fun w => pieceEnd_any s k w (by unfold maxLen; omega) hlt
      have hple := Lx.pieceN_le s k hlt
      have hppos := Lx.pieceN_pos s k
      by_cases hbl : blankB s[k] = true
      · have HG : Hid (LexInv s (k + Lx.pieceN s k) ts) := HI.out.blank hlt hbl
        have hpart : (((s[k].toNat : Nat) : Int) != 32) = false ∨ ((((s[k].toNat : Nat) : Int) != 32) = true ∧ (((s[k].toNat : Nat) : Int) != 10) = false) := by
          unfold blankB at hbl
          simp only [Bool.or_eq_true, beq_iff_eq] at hbl
          rcases hbl with h | h
          · rw [h]; exact Or.inl rfl
          · rw [h]; exact Or.inr ⟨rfl, rfl⟩
        clear hbl
        generalize Lx.pieceN s k = N at *
        rcases hpart with h32 | ⟨h32, h10⟩
        all_goals
          go_wp2_with (go_at_call 64; refine (HP.out _).mono ?_; rintro e w2 ⟨rfl, h2⟩; obtain rfl := h2.symm)
          go_roundw
          case rel => exact ⟨k + N, ts, _, by omega, by go_num, HG.out, HF.out, by omega, HW.out⟩
          case measure => simp [intOf]; omega
      · have hbl' : blankB s[k] = false := by simpa using hbl
        have h32 : (((s[k].toNat : Nat) : Int) != 32) = true := by
          rw [bne_iff_ne]; intro h
          have : s[k] = 32 := UInt8.toNat_inj.1 (by show s[k].toNat = 32; omega)
          rw [this] at hbl'; cases hbl'
        have h10 : (((s[k].toNat : Nat) : Int) != 10) = true := by
          rw [bne_iff_ne]; intro h
          have : s[k] = 10 := UInt8.toNat_inj.1 (by show s[k].toNat = 10; omega)
          rw [this] at hbl'; cases hbl'
        have HB : Hid (blankB s[k] = false) := hbl'
        clear hbl hbl'
        cases htk : tokOf (s.extract k (k + Lx.pieceN s k)) with
        | none =>
          have HE : Hid (lexT s = [] ∧ lexE s = 1) := lex_no (by omega) (HI.out.stop hlt HB.out htk)
          have hpsz : (s.extract k (k + Lx.pieceN s k)).size ≤ 4096 := by rw [extract_size s k _ hple]; omega
          have HCl : Hid (∀ w : World, Calls Tryz.prog 66 #[.string (s.extract k (k + Lx.pieceN s k))] w fun e w' => e = .returned (.string (s.extract k (k + Lx.pieceN s k))) ∧ Below w.heap.size w w') := fun w => Clone_any _ w (by omega)
          have HTp : Hid (∀ w : World, Calls Tryz.prog 65 #[.string (s.extract k (k + Lx.pieceN s k))] w fun e w' => e = .panicked errPanic ∧ Below w.heap.size w w') := fun w => by
            refine (token_any _ w (by unfold maxLen; omega)).mono ?_
            rintro e w' ⟨⟨t', h1, h2⟩ | ⟨h1, h2⟩, hb⟩
            · rw [htk] at h1; cases h1
            · exact ⟨h2, hb⟩
          clear htk hpsz HI HF HB
          generalize hN : Lx.pieceN s k = N at *
          clear hN
          go_wp2_with (go_at_call 64; refine (HP.out _).mono ?_; rintro e w2 ⟨rfl, h2⟩; obtain rfl := h2.symm)
          have hx0 : (0 : Int) ≤ (k : Int) := Int.natCast_nonneg _
          have hx1 : (k : Int) ≤ (k : Int) + (N : Int) := by omega
          have hx2 : (k : Int) + (N : Int) ≤ (s.size : Int) := by omega
          refine wp_region_any (by kernel_rfl) ?_
          change wpAny _ _ _ _ _ _ _ (World.drew _)
          refine wpAny_take (i := 1) (v := .string s) rfl (by kernel_rfl) (by kernel_rfl) (by kernel_rfl) (fun c a w h => post23_put 25 _ (by decide) (by decide) c a w h) (Or.inl ⟨by rfl, fun w => by go_simp⟩) ?_
          refine wpAny_take (i := 2) (v := .int .i64 k) rfl (by kernel_rfl) (by kernel_rfl) (by kernel_rfl) (fun c a w h => post23_put 26 _ (by decide) (by decide) c a w h) (Or.inl ⟨by rfl, fun w => by go_simp⟩) ?_
          refine wpAny_take (i := 3) (v := .int .i64 ((k : Int) + (N : Int))) rfl (by kernel_rfl) (by kernel_rfl) (by kernel_rfl) (fun c a w h => post23_put 27 _ (by decide) (by decide) c a w h) (Or.inl ⟨by rfl, fun w => by go_simp⟩) ?_
          refine wpAny_take (i := 4) (v := .string (s.extract k (k + N))) rfl (by kernel_rfl) (by kernel_rfl) (by kernel_rfl) (fun c a w h => post23_put 28 _ (by decide) (by decide) c a w h) (Or.inl ⟨by rfl, fun w => by go_simp; rw [show ((k : Int) + (N : Int)).toNat = k + N from by omega]⟩) ?_
          refine wpAny_ready (rs := [0, 5]) (by kernel_rfl) (by simp) ?_
          refine AllReady.cons rfl (fun K hK => ?_) (AllReady.cons rfl (fun K hK => ?_) AllReady.nil)
          · go_simp
            refine hK _ _ ?_
            clear hK K
            refine wpAny_ready (rs := [5]) (by kernel_rfl) (by simp) ?_
            refine AllReady.cons rfl (fun K hK => ?_) AllReady.nil
            refine step_call1 (by rfl) 66 _ _ (by rfl) en36 _ (by rfl) _ (HCl.out _) ?_
            intro w2 hb2
            have hc2 := (HW.out.drewT.later hb2).cell
            refine hK _ _ ?_
            clear hK K
            refine wpAny_ready (rs := [6]) (by kernel_rfl) (by simp) ?_
            refine AllReady.cons rfl (fun K hK => ?_) AllReady.nil
            refine step_panic1 (by rfl) 65 _ _ (by rfl) en35 _ (by rfl) errPanic (HTp.out _) ?_
            intro w3 hb3
            exact (TokWorld.caught ((HW.out.drewT.later hb2).later hb3) _ rfl rfl (fun W' hB => ⟨none, 0, by rw [HE.out.1, HE.out.2]; rfl, by rw [HE.out.1]; exact Or.inl rfl, hB⟩))
          · refine step_call1 (by rfl) 66 _ _ (by rfl) en36 _ (by rfl) _ (HCl.out _) ?_
            intro w2 hb2
            have hc2 := (HW.out.drewT.later hb2).cell
            refine hK _ _ ?_
            clear hK K
            refine wpAny_ready (rs := [0, 6]) (by kernel_rfl) (by simp) ?_
            refine AllReady.cons rfl (fun K hK => ?_) (AllReady.cons rfl (fun K hK => ?_) AllReady.nil)
            · go_simp
              refine hK _ _ ?_
              clear hK K
              refine wpAny_ready (rs := [6]) (by kernel_rfl) (by simp) ?_
              refine AllReady.cons rfl (fun K hK => ?_) AllReady.nil
              refine step_panic1 (by rfl) 65 _ _ (by rfl) en35 _ (by rfl) errPanic (HTp.out _) ?_
              intro w3 hb3
              exact (TokWorld.caught ((HW.out.drewT.later hb2).later hb3) _ rfl rfl (fun W' hB => ⟨none, 0, by rw [HE.out.1, HE.out.2]; rfl, by rw [HE.out.1]; exact Or.inl rfl, hB⟩))
            · refine step_panic1 (by rfl) 65 _ _ (by rfl) en35 _ (by rfl) errPanic (HTp.out _) ?_
              intro w3 hb3
              exact (TokWorld.caught ((HW.out.drewT.later hb2).later hb3) _ rfl rfl (fun W' hB => ⟨none, 0, by rw [HE.out.1, HE.out.2]; rfl, by rw [HE.out.1]; exact Or.inl rfl, hB⟩))
        | some t =>
          have HG : Hid (LexInv s (k + Lx.pieceN s k) (ts ++ [t]) ∧ AllFit (ts ++ [t])) := ⟨HI.out.tok hlt HB.out htk, HF.out.snoc (tokOf_fits htk (by rw [extract_size s k _ hple]; unfold maxLen; omega))⟩
          have hpsz : (s.extract k (k + Lx.pieceN s k)).size ≤ 4096 := by rw [extract_size s k _ hple]; omega
          have HCl : Hid (∀ w : World, Calls Tryz.prog 66 #[.string (s.extract k (k + Lx.pieceN s k))] w fun e w' => e = .returned (.string (s.extract k (k + Lx.pieceN s k))) ∧ Below w.heap.size w w') := fun w => Clone_any _ w (by omega)
          have HTk : Hid (∀ w : World, Calls Tryz.prog 65 #[.string (s.extract k (k + Lx.pieceN s k))] w fun e w' => e = .returned (.agg #[.int .i64 t.kind, .int .i64 t.n, .string t.text]) ∧ Below w.heap.size w w') := fun w => by
            refine (token_any _ w (by unfold maxLen; omega)).mono ?_
            rintro e w' ⟨⟨t', h1, h2⟩ | ⟨h1, h2⟩, hb⟩
            · rw [htk] at h1
              obtain rfl := Option.some.inj h1
              exact ⟨h2, hb⟩
            · rw [htk] at h1; cases h1
          clear htk hpsz HI HF HB
          generalize hN : Lx.pieceN s k = N at *
          clear hN
          go_wp2_with (go_at_call 64; refine (HP.out _).mono ?_; rintro e w2 ⟨rfl, h2⟩; obtain rfl := h2.symm)
          have hx0 : (0 : Int) ≤ (k : Int) := Int.natCast_nonneg _
          have hx1 : (k : Int) ≤ (k : Int) + (N : Int) := by omega
          have hx2 : (k : Int) + (N : Int) ≤ (s.size : Int) := by omega
          refine wp_region_noPanic ?_
          go_region_law
            (first
              | (refine step_call1 (by rfl) 66 _ _ (by rfl) en36 _ (by rfl) _ (HCl.out _) ?_; intro w2 hb2; have hc2 := (HW.out.drewT.later hb2).cell)
              | (refine step_call1 (by rfl) 65 _ _ (by rfl) en35 _ (by rfl) _ (HTk.out _) ?_; intro w3 hb3; have hc3 := ((HW.out.drewT.later hb2).later hb3).cell; have hz3 := ((HW.out.drewT.later hb2).later hb3).size; have hz3' : w.heap.size < w3.heap.size := by omega)
              | (refine step_append_lies _ (by rfl) _ _ _ (by rfl) (w.heap.size + 2) 68 i0 _ 3 32 Tryz.underlying38 hi hz0 hz1 hz2 rfl (by omega) (.slice a ts.length cap) ts.length (cellsOf ts) (by rfl) (((HW.out.drewT.later hb2).later hb3).allocT _).own ⟨w3.heap.size, 0, none⟩ 1 1 (tkCells t) (by rfl) (by rfl) (three_new _ _ _ _ _) (three_one _) (by omega) (by unfold maxLen; omega) (by omega) (by have := ((HW.out.drewT.later hb2).later hb3).size; simp; omega) (w3.heap.size + 1) (by simp) ?_; intro gg cap2 w4 hown1 hgrow hat hlt4; obtain ⟨hc4, hf4, htw4⟩ := (((HW.out.drewT.later hb2).later hb3).allocT _).grown hgrow hown1; have HW4 : Hid (TokWorld w (w4.setCell ⟨w.heap.size, 0, none⟩ (.slice (some ⟨gg, 0, none⟩) (ts.length + 1) cap2)) (.slice (some ⟨gg, 0, none⟩) (ts.length + 1) cap2) (ts ++ [t])) := htw4; clear hown1 hgrow htw4))
          all_goals
            refine NoPanic.normal ?_
            go_wp2_with fail
            go_roundw
            case rel => exact ⟨k + N, ts ++ [t], _, by omega, by go_num, HG.out.1, HG.out.2, by rw [List.length_append]; simp only [List.length_cons, List.length_nil]; omega, HW4.out⟩
            case measure => simp [intOf]; omega
    · have HE : Hid (lexT s = ts ∧ lexE s = 0) := lex_yes (by omega) (HI.out.done hlt)
      go_wp2_with fail
      refine leaves_cons (f := 63) (args := #[.pointer (some ⟨w.heap.size, 0, none⟩), .pointer (some ⟨w.heap.size + 1, 0, none⟩)]) (by simp) (by simp [go_sem]) ?_
      refine (catch_idle ⟨w.heap.size, 0, none⟩ ⟨w.heap.size + 1, 0, none⟩ _).mono ?_
      rintro e u' w'' ⟨rfl, rfl, rfl⟩
      obtain ⟨hr, hT, hB⟩ := HW.out.leave HF.out
      refine ⟨_, hr _ rfl rfl, a, cap, by rw [HE.out.1, HE.out.2], by rw [HE.out.1]; exact hT, hB⟩

end Go.Proofs.YtcekpobmbmnplaaGreatDoor

namespace Go.Proofs.YtcekpobmbmnplaaGreatDoor
open Go.RowKit

set_option maxRecDepth 100000 in
set_option maxHeartbeats 400000 in
theorem Lex_any (s : ByteArray) (w : World) (hs : s.size ≤ maxLen) :
    Calls Tryz.prog 13 #[.string s] w fun e w' => ∃ a cap, e = .returned (.tuple #[.slice a (lexT s).length cap, .int .i64 (lexE s)]) ∧ ToksAt w' a (lexT s) ∧ Below w.heap.size w w' := by
  unfold maxLen at hs
  by_cases hlong : 4096 < s.size
  · have HE : Hid (lexT s = [] ∧ lexE s = 2) := lex_long hlong
    go_enter Tryz.func13, Tryz.ntmps13
    go_wp2_with fail
    go_ret2
    exact ⟨none, 0, by rw [HE.out.1, HE.out.2]; rfl, by rw [HE.out.1]; exact Or.inl rfl, Below.refl _ _⟩
  · have HC : Hid (Calls Tryz.prog 30 #[.string s] w fun e w' => ∃ a cap, e = .returned (.tuple #[.slice a (lexT s).length cap, .int .i64 (lexE s)]) ∧ ToksAt w' a (lexT s) ∧ Below w.heap.size w w') := tokens_any s w (by omega)
    generalize lexT s = ts at *
    generalize lexE s = n at *
    go_enter Tryz.func13, Tryz.ntmps13
    go_wp2_with fail
    refine HC.out.mono ?_
    rintro e w2 ⟨a, cap, rfl, hT, hb⟩
    have HT : Hid (ToksAt w2 a ts) := hT
    clear hT HC
    go_wp2_with fail
    go_ret2
    exact ⟨a, cap, rfl, HT.out, hb⟩

/- The same with a bound on how many pieces are read, so that it can be reckoned. -/
def lexF : Nat → ByteArray → Nat → Option (List Tk)
  | 0, s, a => if a < s.size then none else some []
  | f + 1, s, a =>
    if h : a < s.size then
      if blankB s[a] then lexF f s (a + Lx.pieceN s a)
      else match tokOf (s.extract a (a + Lx.pieceN s a)) with
        | none => none
        | some t => (lexF f s (a + Lx.pieceN s a)).map (t :: ·)
    else some []
theorem lexF_eq : ∀ (f : Nat) (s : ByteArray) (a : Nat), s.size - a ≤ f → lexF f s a = lexAt s a
  | 0, s, a, h => by rw [lexAt_end s a (by omega)]; unfold lexF; rw [if_neg (by omega)]
  | f + 1, s, a, h => by
    have hp := Lx.pieceN_pos s a
    have ih := lexF_eq f s (a + Lx.pieceN s a) (by omega)
    rw [lexAt, lexF, ih]
    cases tokOf (s.extract a (a + Lx.pieceN s a)) <;> rfl
def text0 : ByteArray := ⟨#[105, 102, 40, 97, 49, 60, 50, 48, 41, 10, 32, 120]⟩
def toks0 : List Tk := [⟨1, 0, ⟨#[105, 102]⟩⟩, ⟨3, 0, ⟨#[40]⟩⟩, ⟨1, 0, ⟨#[97, 49]⟩⟩, ⟨3, 0, ⟨#[60]⟩⟩, ⟨2, 20, ⟨#[]⟩⟩, ⟨3, 0, ⟨#[41]⟩⟩, ⟨1, 0, ⟨#[120]⟩⟩]
theorem lex_text0 : lexAt text0 0 = some toks0 := by
  rw [← lexF_eq 12 text0 0 (by decide)]
  rfl
theorem lex_text1 : lexAt ⟨#[48, 49]⟩ 0 = none := by
  rw [← lexF_eq 2 ⟨#[48, 49]⟩ 0 (by decide)]
  rfl
theorem lex_text2 : lexAt ⟨#[49, 97]⟩ 0 = none := by
  rw [← lexF_eq 2 ⟨#[49, 97]⟩ 0 (by decide)]
  rfl
theorem check_toks0 : checkN toks0 = 0 := by
  have h1 : toks0.all kindB = true := rfl
  have h2 : toks0.all Tk.okB = true := by
    have e : Tk.okB ⟨2, 20, ⟨#[]⟩⟩ = true := by unfold Tk.okB; rw [Lib.toList_data]; rfl
    simp only [toks0, List.all_cons, List.all_nil, Bool.and_true, e]
    rfl
  exact checkN_ok h1 h2 (by decide)
theorem show_toks0 : showL toks0 = [105, 102, 32, 40, 32, 97, 49, 32, 60, 32, 50, 48, 32, 41, 32, 120] := by
  have h20 : Lib.decDigits 20 = [50, 48] := by rw [Lib.decDigits, dif_neg (by omega), Lx.dec_small _ (by omega)]; rfl
  simp only [toks0, showL, List.flatMap_cons, List.flatMap_nil, txtL]
  simp [h20]

theorem lexT0 : lexT text0 = toks0 ∧ lexE text0 = 0 := lex_yes (by decide) lex_text0
theorem lexT1 : lexT ⟨#[48, 49]⟩ = [] ∧ lexE ⟨#[48, 49]⟩ = 1 := lex_no (by decide) lex_text1
theorem lexT2 : lexT ⟨#[49, 97]⟩ = [] ∧ lexE ⟨#[49, 97]⟩ = 1 := lex_no (by decide) lex_text2
theorem showR0 : showR toks0 = ⟨#[105, 102, 32, 40, 32, 97, 49, 32, 60, 32, 50, 48, 32, 41, 32, 120]⟩ := by
  unfold showR; rw [if_pos check_toks0, show_toks0]; rfl

end Go.Proofs.YtcekpobmbmnplaaGreatDoor

namespace Go.Proofs.YtcekpobmbmnplaaGreatDoor
open Go.RowKit

def pieceL (l : List UInt8) : Nat := if Lx.runL l = 0 then 1 else Lx.runL l
theorem pieceL_pos (l : List UInt8) : 0 < pieceL l := by unfold pieceL; split <;> omega
theorem runL_le (l : List UInt8) : Lx.runL l ≤ l.length := (List.takeWhile_prefix Lx.alnB (l := l)).length_le
theorem pieceL_le (c : UInt8) (l : List UInt8) : pieceL (c :: l) ≤ (c :: l).length := by
  have := runL_le (c :: l); unfold pieceL; split
  · simp
  · exact this
def lexL : List UInt8 → Option (List Tk)
  | [] => some []
  | c :: l =>
    if blankB c then lexL ((c :: l).drop (pieceL (c :: l)))
    else match tokOf (strOf ((c :: l).take (pieceL (c :: l)))) with
      | none => none
      | some t => (lexL ((c :: l).drop (pieceL (c :: l)))).map (t :: ·)
termination_by l => l.length
decreasing_by
  all_goals have := pieceL_pos (c :: l); simp only [List.length_drop, List.length_cons]; omega

theorem extract_str (s : ByteArray) (a n : Nat) : s.extract a (a + n) = strOf ((s.data.toList.drop a).take n) := by
  rw [← piece_data, strOf_back]
theorem lexAt_list : ∀ (n : Nat) (s : ByteArray) (a : Nat), s.size - a = n → lexAt s a = lexL (s.data.toList.drop a) := by
  intro n
  induction n using Nat.strongRecOn with
  | _ n ih =>
    intro s a hn
    by_cases h : a < s.size
    · have hd := drop_cons s a h
      have hp : Lx.pieceN s a = pieceL (s.data.toList.drop a) := rfl
      have hpos := Lx.pieceN_pos s a
      have ih' := ih (s.size - (a + Lx.pieceN s a)) (by omega) s (a + Lx.pieceN s a) rfl
      have hdd : s.data.toList.drop (a + Lx.pieceN s a) = (s.data.toList.drop a).drop (Lx.pieceN s a) := by rw [List.drop_drop]
      cases hb : blankB s[a] with
      | true =>
        rw [lexAt_blank s a h hb, ih', hdd, hp, hd, lexL, if_pos hb]
      | false =>
        have he := extract_str s a (Lx.pieceN s a)
        cases ht : tokOf (s.extract a (a + Lx.pieceN s a)) with
        | none =>
          rw [lexAt_none s a h hb ht]
          rw [he, hp, hd] at ht
          rw [hd, lexL, if_neg (by simp [hb]), ht]
        | some t =>
          rw [lexAt_some s a t h hb ht, ih', hdd]
          rw [he, hp, hd] at ht
          rw [hp, hd, lexL, if_neg (by simp [hb]), ht]
    · rw [lexAt_end s a h, List.drop_eq_nil_of_le (by rw [Lx.len_toList]; omega), lexL]
theorem lexAt_zero (s : ByteArray) : lexAt s 0 = lexL s.data.toList := by
  have := lexAt_list _ s 0 rfl
  rwa [List.drop_zero] at this

def comb (x y : Option (List Tk)) : Option (List Tk) := x.bind fun ts => y.map (ts ++ ·)
/- y is empty, or begins with a blank -/
def startsBlank : List UInt8 → Bool
  | [] => true
  | c :: _ => blankB c
theorem runL_app (x y : List UInt8) (hy : startsBlank y = true) : Lx.runL (x ++ y) = Lx.runL x := by
  induction x with
  | nil =>
    cases y with
    | nil => rfl
    | cons c r => simp [Lx.runL, (blank_plain (c := c) hy).1]
  | cons c r ih =>
    unfold Lx.runL at *
    rw [List.cons_append, List.takeWhile_cons, List.takeWhile_cons]
    split
    · simp [ih]
    · rfl
theorem lexL_app : ∀ (n : Nat) (x y : List UInt8), x.length = n → startsBlank y = true → lexL (x ++ y) = comb (lexL x) (lexL y) := by
  intro n
  induction n using Nat.strongRecOn with
  | _ n ih =>
    intro x y hn hy
    cases x with
    | nil =>
      rw [List.nil_append]
      show lexL y = comb (lexL []) (lexL y)
      rw [show lexL [] = some [] from by rw [lexL]]
      cases lexL y <;> rfl
    | cons c r =>
      have hpc : pieceL ((c :: r) ++ y) = pieceL (c :: r) := by unfold pieceL; rw [runL_app _ _ hy]
      have hle := pieceL_le c r
      have hpos := pieceL_pos (c :: r)
      have e1 : ((c :: r) ++ y).drop (pieceL ((c :: r) ++ y)) = (c :: r).drop (pieceL (c :: r)) ++ y := by
        rw [hpc, List.drop_append_of_le_length hle]
      have e2 : ((c :: r) ++ y).take (pieceL ((c :: r) ++ y)) = (c :: r).take (pieceL (c :: r)) := by
        rw [hpc, List.take_append_of_le_length hle]
      have ih' := ih ((c :: r).drop (pieceL (c :: r))).length (by rw [List.length_drop]; simp at hn ⊢; omega) _ y rfl hy
      rw [List.cons_append] at e1 e2 ⊢
      rw [lexL, e1, e2, ih', lexL]
      split
      · rfl
      · cases tokOf (strOf ((c :: r).take (pieceL (c :: r)))) with
        | none => rfl
        | some t =>
          cases lexL ((c :: r).drop (pieceL (c :: r))) with
          | none => rfl
          | some ts => cases lexL y <;> rfl
theorem lexL_blank (l : List UInt8) : lexL (32 :: l) = lexL l := by
  have hr : pieceL (32 :: l) = 1 := by
    unfold pieceL
    rw [if_pos (by unfold Lx.runL; rw [List.takeWhile_cons, if_neg (by decide)]; rfl)]
  rw [lexL, if_pos (by rfl), hr]
  rfl
/- one piece that is a token -/
theorem lexL_one (l : List UInt8) (t : Tk) (hne : l ≠ []) (hp : pieceL l = l.length) (hb : startsBlank l = false) (ht : tokOf (strOf l) = some t) : lexL l = some [t] := by
  cases l with
  | nil => exact absurd rfl hne
  | cons c r =>
    rw [lexL, hp, List.drop_length, List.take_length, ht, if_neg (by simpa [startsBlank] using hb)]
    rw [show lexL [] = some [] from by rw [lexL]]
    rfl
theorem piece_all (l : List UInt8) (hne : l ≠ []) (h : l.all Lx.alnB = true) : pieceL l = l.length ∧ startsBlank l = false ∧ Lx.signL l = false := by
  have hr : Lx.runL l = l.length := Lx.runL_at l l.length (by rw [List.take_length]; exact h) (Nat.le_refl _) (fun h => by omega)
  refine ⟨?_, ?_, ?_⟩
  · unfold pieceL
    rw [hr, if_neg (fun e => hne (List.eq_nil_of_length_eq_zero e))]
  · cases l with
    | nil => exact absurd rfl hne
    | cons c r => simp at h; exact (aln_plain h.1).2
  · match l with
    | [] => rfl
    | [c] => simp at h; exact (aln_plain h).1
    | _ :: _ :: _ => rfl
theorem dec_digits (u : Nat) : (Lib.decDigits u).all Lx.digB = true ∧ Lib.decDigits u ≠ [] ∧ Lx.valL (Lib.decDigits u) = u := by
  have one : ∀ d, d < 10 → Lx.digB (UInt8.ofNat (48 + d)) = true ∧ Lx.dv (UInt8.ofNat (48 + d)) = d := by
    intro d hd
    have e : (UInt8.ofNat (48 + d)).toNat = 48 + d := by rw [UInt8.toNat_ofNat']; omega
    constructor
    · unfold Lx.digB; rw [e]; simp; omega
    · unfold Lx.dv; rw [e]; omega
  induction u using Nat.strongRecOn with
  | _ u ih =>
    by_cases h : u < 10
    · rw [Lx.dec_small u h]
      refine ⟨?_, by simp, ?_⟩
      · rw [List.all_cons, (one u h).1]; rfl
      · have := Lx.valL_snoc [] (UInt8.ofNat (48 + u))
        rw [List.nil_append, (one u h).2] at this
        rw [this]; simp [Lx.valL]
    · obtain ⟨h1, h2, h3⟩ := ih (u / 10) (by omega)
      rw [Lib.decDigits, dif_neg h]
      have hm := one (u % 10) (by omega)
      refine ⟨?_, by simp, ?_⟩
      · rw [List.all_append, h1, List.all_cons, hm.1]; rfl
      · rw [Lx.valL_snoc, h3, hm.2]; omega
theorem dig_aln {l : List UInt8} (h : l.all Lx.digB = true) : l.all Lx.alnB = true := by
  rw [List.all_eq_true] at *
  intro c hc
  unfold Lx.alnB; rw [h c hc]; simp
theorem lex_tok {t : Tk} (hk : kindB t = true) (h : Tk.okB t = true) : lexL (txtL t) = some [t] := by
  obtain ⟨K, N, S⟩ := t
  unfold Tk.okB at h
  simp only at h
  by_cases k1 : K = 1
  · subst k1
    rw [if_pos rfl] at h
    simp only [Bool.and_eq_true, decide_eq_true_eq] at h
    obtain ⟨rfl, hn⟩ := h
    have hx : txtL ⟨1, 0, S⟩ = S.data.toList := by unfold txtL; rw [if_neg (by show ¬ (1 : Int) = 2; decide)]
    rw [hx]
    have hne : S.data.toList ≠ [] := fun e => by rw [e] at hn; cases hn
    have hall : S.data.toList.all Lx.alnB = true := by unfold Lx.nameB at hn; simp only [Bool.and_eq_true] at hn; exact hn.2
    obtain ⟨hp, hb, hs⟩ := piece_all _ hne hall
    refine lexL_one _ _ hne hp hb ?_
    unfold tokOf
    rw [strOf_list, hs, hn, strOf_back]
    rfl
  · rw [if_neg k1] at h
    by_cases k2 : K = 2
    · subst k2
      rw [if_pos rfl] at h
      simp only [Bool.and_eq_true, decide_eq_true_eq] at h
      obtain ⟨hS, h0, h1⟩ := h
      obtain ⟨n, rfl⟩ := Int.eq_ofNat_of_zero_le h0
      have hS' : S = ⟨#[]⟩ := by
        rw [Lib.toList_data, List.isEmpty_iff] at hS
        rw [← strOf_back S, hS]; rfl
      subst hS'
      have hx : txtL ⟨2, (n : Int), ⟨#[]⟩⟩ = Lib.decDigits n := by unfold txtL; rw [if_pos rfl]; simp
      rw [hx]
      obtain ⟨hd, hne, hv⟩ := dec_digits n
      obtain ⟨hp, hb, hs⟩ := piece_all _ hne (dig_aln hd)
      refine lexL_one _ _ hne hp hb ?_
      have hnm : Lx.nameB (Lib.decDigits n) = false := by
        unfold Lx.nameB
        cases hl : Lib.decDigits n with
        | nil => rfl
        | cons c r =>
          rw [hl] at hd
          simp only [List.all_cons, Bool.and_eq_true] at hd
          have := Lx.dig_range c hd.1
          have hc : Lx.letB c = false := by unfold Lx.letB; simp; omega
          simp [Lx.headLet, hc]
      have hok : Lx.numOk (Lib.decDigits n) = true := by
        rw [Lx.numOk_digits _ hne hd, hv]; simp; omega
      unfold tokOf
      rw [strOf_list, hs, hnm, hok, hv]
      rfl
    · rw [if_neg k2] at h
      simp only [Bool.and_eq_true, decide_eq_true_eq] at h
      obtain ⟨rfl, hs⟩ := h
      have k3 : K = 3 := by unfold kindB at hk; simp at hk; omega
      subst k3
      have hx : txtL ⟨3, 0, S⟩ = S.data.toList := by unfold txtL; rw [if_neg (by show ¬ (3 : Int) = 2; decide)]
      rw [hx]
      have hlen := sign_len hs
      match hl : S.data.toList, hlen with
      | [c], _ =>
        rw [hl] at hs
        have hc : Lx.signB c = true := hs
        refine lexL_one _ _ (by simp) ?_ (sign_plain hc).2 ?_
        · have hr : Lx.runL [c] = 0 := by
            unfold Lx.runL
            rw [List.takeWhile_cons, if_neg (by rw [(sign_plain hc).1]; simp)]
            rfl
          unfold pieceL
          rw [if_pos hr]
          rfl
        · unfold tokOf
          rw [strOf_list, hs, ← hl, strOf_back]
          rfl
theorem lex_rest : ∀ (r : List Tk), r.all kindB = true → r.all Tk.okB = true → lexL (r.flatMap fun t => 32 :: txtL t) = some r
  | [], _, _ => by rw [List.flatMap_nil, lexL]
  | t :: r, hk, ho => by
    simp only [List.all_cons, Bool.and_eq_true] at hk ho
    have ih := lex_rest r hk.2 ho.2
    rw [List.flatMap_cons, List.cons_append, lexL_blank]
    have hs : startsBlank (r.flatMap fun t => 32 :: txtL t) = true := by cases r <;> rfl
    rw [lexL_app _ _ _ rfl hs, lex_tok hk.1 ho.1, ih]
    rfl
/- A3: what is shown is read as it was. -/
theorem lex_show (ts : List Tk) (h : Right ts) : lexL (showL ts) = some ts := by
  cases ts with
  | nil => show lexL [] = some []; rw [lexL]
  | cons t r =>
    obtain ⟨hk, ho⟩ := h
    simp only [List.all_cons, Bool.and_eq_true] at hk ho
    have hs : startsBlank (r.flatMap fun t => 32 :: txtL t) = true := by cases r <;> rfl
    show lexL (txtL t ++ r.flatMap fun t => 32 :: txtL t) = _
    rw [lexL_app _ _ _ rfl hs, lex_tok hk.1 ho.1, lex_rest r hk.2 ho.2]
    rfl
/- A2: texts with a blank between them. -/
theorem lex_join (a b : List UInt8) : lexL (a ++ 32 :: b) = comb (lexL a) (lexL b) := by
  rw [lexL_app _ a (32 :: b) rfl rfl, lexL_blank]
/- what is read is right -/
theorem tokOf_right {s : ByteArray} {t : Tk} (h : tokOf s = some t) : kindB t = true ∧ Tk.okB t = true := by
  unfold tokOf at h
  split at h
  · rename_i hs
    cases h
    exact ⟨rfl, by unfold Tk.okB; simp [hs]⟩
  · split at h
    · rename_i hn
      cases h
      exact ⟨rfl, by unfold Tk.okB; simp [hn]⟩
    · split at h
      · rename_i hk
        cases h
        refine ⟨rfl, ?_⟩
        have hv : Lx.valL s.data.toList ≤ 1099511627775 := by unfold Lx.numOk at hk; simp at hk; exact hk.2
        unfold Tk.okB
        rw [Lib.toList_data]
        simp
        omega
      · cases h
theorem lexL_right : ∀ (n : Nat) (l : List UInt8) (ts : List Tk), l.length = n → lexL l = some ts → Right ts ∧ ts.length ≤ l.length := by
  intro n
  induction n using Nat.strongRecOn with
  | _ n ih =>
    intro l ts hn h
    cases l with
    | nil => rw [lexL] at h; cases h; exact ⟨⟨rfl, rfl⟩, Nat.le_refl _⟩
    | cons c r =>
      have hpos := pieceL_pos (c :: r)
      have hlen : ((c :: r).drop (pieceL (c :: r))).length < n := by rw [List.length_drop]; simp at hn ⊢; omega
      rw [lexL] at h
      split at h
      · obtain ⟨h1, h2⟩ := ih _ hlen _ ts rfl h
        exact ⟨h1, by omega⟩
      · cases ht : tokOf (strOf ((c :: r).take (pieceL (c :: r)))) with
        | none => rw [ht] at h; cases h
        | some t =>
          rw [ht] at h
          cases hr : lexL ((c :: r).drop (pieceL (c :: r))) with
          | none => rw [hr] at h; cases h
          | some us =>
            rw [hr] at h
            cases h
            obtain ⟨h1, h2⟩ := ih _ hlen _ us rfl hr
            obtain ⟨hk, ho⟩ := tokOf_right ht
            refine ⟨⟨?_, ?_⟩, ?_⟩
            · rw [List.all_cons, hk, h1.1]; rfl
            · rw [List.all_cons, ho, h1.2]; rfl
            · simp only [List.length_cons] at *; omega

end Go.Proofs.YtcekpobmbmnplaaGreatDoor

namespace Go.Proofs.YtcekpobmbmnplaaGreatDoor
open Go.RowKit

/- What an operation has. -/
structure Sh where
  named : Bool
  number : Bool
  least : Int
  most : Int
  body : Bool
  other : Bool
def Sh.val (s : Sh) : Value := .agg #[.bool s.named, .bool s.number, .int .i64 s.least, .int .i64 s.most, .bool s.body, .bool s.other]
def sh0 : Sh := ⟨false, false, 0, 0, false, false⟩
def exSh (op : Int) : Option Sh :=
  if op = 1 then some ⟨false, true, 0, 0, false, false⟩ else if op = 2 then some sh0 else if op = 3 then some ⟨true, false, 0, 0, false, false⟩
  else if op = 4 then some ⟨true, false, 1, 1, false, false⟩ else if op = 5 then some ⟨true, false, 0, 3, false, false⟩ else if op = 6 then some ⟨false, false, 1, 1, false, false⟩
  else if 7 ≤ op ∧ op ≤ 15 then some ⟨false, false, 2, 2, false, false⟩ else none
def stSh (op : Int) : Option Sh :=
  if op = 1 then some ⟨true, false, 1, 1, false, false⟩ else if op = 2 then some ⟨true, false, 2, 2, false, false⟩ else if op = 3 then some ⟨true, false, 0, 3, false, false⟩
  else if op = 4 then some ⟨false, false, 1, 1, true, true⟩ else if op = 5 then some ⟨false, false, 1, 1, true, false⟩ else if op = 6 then some ⟨false, false, 1, 1, false, false⟩
  else if op = 7 then some ⟨false, false, 1, 1, false, false⟩ else none
def exB (op : Int) : Bool := (exSh op).isSome
def stB (op : Int) : Bool := (stSh op).isSome
def exS (op : Int) : Sh := (exSh op).getD sh0
def stS (op : Int) : Sh := (stSh op).getD sh0

def kept : List (List UInt8) := [[109, 111, 100, 117, 108, 101], [117, 115, 101], [112, 117, 98], [99, 111, 110, 115, 116], [118, 97, 114], [97, 114, 114, 97, 121], [112, 114, 111, 99], [108, 111, 99, 97, 108], [109, 97, 105, 110],
  [105, 102], [101, 108, 115, 101], [119, 104, 105, 108, 101], [114, 101, 116, 117, 114, 110], [111, 117, 116], [105, 110]]
def keptB (s : ByteArray) : Bool := kept.contains s.data.toList
def nameOk (s : ByteArray) : Bool := !keptB s && Lx.nameB s.data.toList
def numOkB (n : Int) : Bool := decide (0 ≤ n) && decide (n ≤ 1099511627775)
def refOk (h : Sh) (mod name : ByteArray) : Bool := if h.named then nameOk name && (decide (mod.size = 0) || nameOk mod) else decide (mod.size = 0) && decide (name.size = 0)
def nOk (h : Sh) (n : Int) : Bool := if h.number then numOkB n else decide (n = 0)
def countOk (h : Sh) (k : Nat) : Bool := decide (h.least ≤ (k : Int)) && decide ((k : Int) ≤ h.most)

/- Kinds: k is how deep it may yet go. -/
def exKinds : Nat → List Ex → Bool
  | 0, _ => true
  | k + 1, l => l.all (fun x => exB x.op && exKinds k x.args)
def stKinds : Nat → List St → Bool
  | 0, _ => true
  | k + 1, l => l.all (fun s => stB s.op && (exKinds 6 s.args && (stKinds k s.body && stKinds k s.other)))
/- Too many, or too deep. -/
def exMany : Nat → List Ex → Bool
  | 0, l => decide (0 < l.length)
  | k + 1, l => decide (3 < l.length) || l.any (fun x => exMany k x.args)
def stMany : Nat → List St → Bool
  | 0, _ => true
  | k + 1, l => decide (10 < l.length) || l.any (fun s => exMany 6 s.args || (((stS s.op).body || decide (0 < s.body.length)) && stMany k s.body || (decide (0 < s.other.length) && stMany k s.other)))
/- Forms. -/
def exForm : Nat → List Ex → Bool
  | 0, _ => true
  | k + 1, l => l.all (fun x => refOk (exS x.op) x.mod x.name && (nOk (exS x.op) x.n && (countOk (exS x.op) x.args.length && exForm k x.args)))
def stForm : Nat → List St → Bool
  | 0, _ => true
  | k + 1, l => l.all (fun s => refOk (stS s.op) s.mod s.name && (countOk (stS s.op) s.args.length && (exForm 6 s.args && (((stS s.op).body || decide (s.body.length = 0)) && (((stS s.op).other || decide (s.other.length = 0)) && (stForm k s.body && stForm k s.other))))))
def sizeOk (d : De) : Bool := if d.kind = 1 then numOkB d.n else if d.kind = 3 then decide (1 ≤ d.n) && decide (d.n ≤ 32) else decide (d.n = 0)

def Mo.bodies (m : Mo) : List (List St) := m.procs.map Pr.body ++ [m.main]
def Mo.kinds (m : Mo) : Bool := m.decls.all (fun d => decide (1 ≤ d.kind) && decide (d.kind ≤ 3)) && m.bodies.all (stKinds 6)
def Mo.many (m : Mo) : Bool := decide (3 < m.uses.length) || (decide (10 < m.decls.length) || (decide (6 < m.procs.length) || (m.procs.any (fun p => decide (3 < p.params.length) || decide (4 < p.locals.length)) || m.bodies.any (stMany 6))))
def Mo.form (m : Mo) : Bool := nameOk m.name && (m.uses.all nameOk && (m.decls.all (fun d => nameOk d.name && sizeOk d) && (m.procs.all (fun p => nameOk p.name && (p.params.all nameOk && p.locals.all nameOk)) && m.bodies.all (stForm 6))))
def Mo.err (m : Mo) : Int := if m.kinds then (if m.many then 2 else (if m.form then 0 else 1)) else 4

theorem any_snoc {α : Type} (ts : List α) (p : α → Bool) (k : Nat) (h : k < ts.length) : (ts.take (k + 1)).any p = ((ts.take k).any p || p ts[k]) := by
  rw [List.take_succ_eq_append_getElem h, List.any_append]; simp
theorem any_at {α : Type} (ts : List α) (p : α → Bool) (k : Nat) (h : k < ts.length) (hp : p ts[k] = true) : ts.any p = true := by
  rw [List.any_eq_true]; exact ⟨ts[k], List.getElem_mem _, hp⟩
theorem all_end {α : Type} {ts : List α} {p : α → Bool} {k : Nat} (h : (ts.take k).all p = true) (hk : ¬ k < ts.length) : ts.all p = true := by
  rw [List.take_of_length_le (by omega)] at h; exact h
theorem any_end {α : Type} {ts : List α} {p : α → Bool} {k : Nat} (h : (ts.take k).any p = false) (hk : ¬ k < ts.length) : ts.any p = false := by
  rw [List.take_of_length_le (by omega)] at h; exact h
theorem wf_range {n : Int} (h : (Lit.int .i64 n).wf = true) : -9223372036854775808 ≤ n ∧ n ≤ 9223372036854775807 := by
  have h1 : IntKind.i64.min = -9223372036854775808 := by decide
  have h2 : IntKind.i64.max = 9223372036854775807 := by decide
  simp [Lit.wf, h1, h2] at h
  omega
end Go.Proofs.YtcekpobmbmnplaaGreatDoor
