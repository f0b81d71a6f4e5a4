/-
  Small laws for a statement whose order of evaluation is drawn: a call of one argument by its contract, where it returns and where it panics; and that what a deferred call is to do does not hang on temporaries beside the results.
-/
import Derived.Test.YtfiejjaocfcheaaDoorLexr
import Derived.Defers
import Derived.Recover
import Derived.Deep.RegionHeld3
import Derived.Deep.AppendLies
import Derived.Deep.RegionLaw
import Derived.Shelf.Abstract
namespace Go.Proofs.YtfiejjaocfcheaaDoor
open Go.RowKit Go.Shelf

section
variable {P : Program} {ops : Array Oper} {o : Oper} {a : Act} {w : World} {K : Act → World → Prop} {Q : Exit → Act → World → Prop} {E : Prop}
theorem run_call1 (f : FuncId) (x : Operand) (ty : TypeId) (ho : o.op = .call { callee := .value (.func f), args := #[x], argTypes := #[ty] })
    (hen : Enters P f) (v : Value) (hx : a.eval x = v) : (execOp a.eval o).run P w = .ok (.enter f #[v]) w := by
  have h := hen #[v] w
  have hf : a.eval (.func f) = .func (.func f) #[] #[] := rfl
  simp [execOp, ho, resolve, invoke, hx, hf, h, Deferred.ofValue]
theorem step_call1 (hgd : o.guard = none) (f : FuncId) (x : Operand) (ty : TypeId) (ho : o.op = .call { callee := .value (.func f), args := #[x], argTypes := #[ty] })
    (hen : Enters P f) (v : Value) (hx : a.eval x = v) (u : Value) {R : World → Prop} (hC : Calls P f #[v] w fun e w' => e = .returned u ∧ R w')
    (h : ∀ w', R w' → K (a.put o.dst u) w') : if Region.wanted o (yielded ops a.tmps) = true then Oper.wp P o a w K Q else E := by
  have hw : Region.wanted o (yielded ops a.tmps) = true := by simp [Region.wanted, hgd]
  rw [if_pos hw]
  unfold Oper.wp
  rw [run_call1 f x ty ho hen v hx, Oper.upon_enter]
  refine hC.mono ?_
  rintro e w' ⟨rfl, hR⟩
  exact h w' hR
theorem step_panic1 (hgd : o.guard = none) (f : FuncId) (x : Operand) (ty : TypeId) (ho : o.op = .call { callee := .value (.func f), args := #[x], argTypes := #[ty] })
    (hen : Enters P f) (v : Value) (hx : a.eval x = v) (c : List PanicEntry) {R : World → Prop} (hC : Calls P f #[v] w fun e w' => e = .panicked c ∧ R w')
    (h : ∀ w', R w' → Q (.panic c) a w') : if Region.wanted o (yielded ops a.tmps) = true then Oper.wp P o a w K Q else E := by
  have hw : Region.wanted o (yielded ops a.tmps) = true := by simp [Region.wanted, hgd]
  rw [if_pos hw]
  unfold Oper.wp
  rw [run_call1 f x ty ho hen v hx, Oper.upon_enter]
  refine hC.mono ?_
  rintro e w' ⟨rfl, hR⟩
  exact h w' hR
end

theorem leaves_same {P : Program} {fn : Func} {t1 t2 : Array Value} {R : Ending → World → Prop} (h : results fn t1 = results fn t2) :
    ∀ (ds : List Deferred) (u : FrameMode) (w : World), Leaves P fn t1 R ds u w → Leaves P fn t2 R ds u w
  | [], .returning, w, hl => by simpa only [Leaves, h] using hl
  | [], .panicking _, _, hl => hl
  | [], .run, _, hl => hl
  | d :: ds, u, w, hl => by
    obtain ⟨h1, fv, cap, f, args, h2, h3, h4⟩ := hl
    refine ⟨h1, fv, cap, f, args, h2, h3, h4.mono ?_⟩
    intro e u' w' h5
    cases e with
    | returned v => exact leaves_same h ds _ w' h5
    | panicked c => exact leaves_same h ds _ w' h5
    | outgrown => exact h5
theorem results23_put (t : Array Value) (d : Nat) (v : Value) (h2 : d ≠ 2) (h3 : d ≠ 3) : results Tryd.f23 (t.setIfInBounds d v) = results Tryd.f23 t := by
  unfold results
  rw [Tryd.results23]
  simp [Array.getElem?_setIfInBounds, h2, h3]
theorem post23_put {R : Ending → World → Prop} (d : Nat) (v : Value) (h2 : d ≠ 2) (h3 : d ≠ 3) (c : List PanicEntry) (a : Act) (w : World)
    (h : bodyPostD Tryd.prog Tryd.f23 R (.panic c) (a.put (some d) v) w) : bodyPostD Tryd.prog Tryd.f23 R (.panic c) a w :=
  leaves_same (results23_put a.tmps d v h2 h3) _ _ _ h

end Go.Proofs.YtfiejjaocfcheaaDoor
