/-
  What the reader's deferred call does.
-/
import Derived.Test.YtidhbgidkgopfaaFu
import Derived.Defers
import Derived.Recover
namespace Go.Proofs.Ytidhbgidkgopfaa
open Go.RowKit Go.Shelf
set_option maxRecDepth 100000

def noneF (w : World) (b : Nat) : World := (((w.alloc (.cells #[.string ⟨#[]⟩, .slice none 0 0] 24)).setCell ⟨b, 0, none⟩ (.string ⟨#[]⟩)).setCell ⟨b, 1, none⟩ (.slice none 0 0)).setCell ⟨b + 1, 0, none⟩ (.bool false)

set_option maxHeartbeats 800000 in
theorem catch_thrown (b : Nat) (x0 x1 : Value) (y : Bool) (u : TypeId) (pv : Value) (w : World) (hX : Bf w b x0 x1)
    (hd : w.cell? ⟨b + 1, 0, none⟩ = some (.bool y)) (hy : w.frozen? ⟨b + 1, 0, none⟩ = false) (hlt : b + 1 < w.heap.size) :
    CallsD Try.prog 36 #[.pointer (some ⟨b, 0, none⟩), .pointer (some ⟨b + 1, 0, none⟩)] (.panicking [{ v := .iface u pv, recovered := false }]) w fun e u' w' =>
      e = .returned (.tuple #[]) ∧ u' = .panicking [{ v := .iface u pv, recovered := true }] ∧ w' = noneF w b := by
  have hA := hX.alloc (.cells #[.string ⟨#[]⟩, .slice none 0 0] 24)
  have hn := Bf.new w 24 (.string ⟨#[]⟩) (.slice none 0 0)
  have hd1 : (w.alloc (.cells #[.string ⟨#[]⟩, .slice none 0 0] 24)).cell? ⟨b + 1, 0, none⟩ = some (.bool y) := (World.cell?_of_block (a := ⟨b + 1, 0, none⟩) (Below.heap_alloc w _ (b + 1) hlt)).trans hd
  have hy1 : (w.alloc (.cells #[.string ⟨#[]⟩, .slice none 0 0] 24)).frozen? ⟨b + 1, 0, none⟩ = false := (World.frozen?_of_block (a := ⟨b + 1, 0, none⟩) (Below.heap_alloc w _ (b + 1) hlt)).trans hy
  have hE : (noneF w b) = (((w.alloc (.cells #[.string ⟨#[]⟩, .slice none 0 0] 24)).setCell ⟨b, 0, none⟩ (.string ⟨#[]⟩)).setCell ⟨b, 1, none⟩ (.slice none 0 0)).setCell ⟨b + 1, 0, none⟩ (.bool false) := rfl
  rw [hE]
  obtain ⟨_, a0, a1, g0, g1⟩ := hA
  obtain ⟨_, n0, n1, _, _⟩ := hn
  have a1' : ((w.alloc (.cells #[.string ⟨#[]⟩, .slice none 0 0] 24)).setCell ⟨b, 0, none⟩ (.string ⟨#[]⟩)).cell? ⟨b, 1, none⟩ = some x1 := (World.cell?_setCell_other _ _ _ _ (by simp)).trans a1
  have d2 : (((w.alloc (.cells #[.string ⟨#[]⟩, .slice none 0 0] 24)).setCell ⟨b, 0, none⟩ (.string ⟨#[]⟩)).setCell ⟨b, 1, none⟩ (.slice none 0 0)).cell? ⟨b + 1, 0, none⟩ = some (.bool y) :=
    (World.cell?_setCell_other _ _ _ _ (by simp)).trans ((World.cell?_setCell_other _ _ _ _ (by simp)).trans hd1)
  refine callsD_of_wpS Try.func36 rfl fun c₀ cs hu => ?_
  apply wpS_seq
  apply wpS_region
  simp [wpOpsS, go_sem, recoverD, hu, Try.ntmps36, Exit.thenS]
  refine wpS_cond (t := true) (by simp [Act.eval, Array.replicate]) ?_
  simp only [if_true]
  apply wpS_seq
  apply wpS_region
  simp [wpOpsS, go_sem, Exit.thenS]
  apply wpS_region
  simp [wpOpsS, go_sem, n0, n1, a0, g0, g1, a1', d2, hy1, bodyPostS, results, Try.results36]

theorem catch_idle (p q : Addr) (w : World) :
    CallsD Try.prog 36 #[.pointer (some p), .pointer (some q)] .returning w fun e u' w' => e = .returned (.tuple #[]) ∧ u' = .returning ∧ w' = w := by
  refine callsD_of_wpS Try.func36 rfl fun c₀ cs hu => ?_
  apply wpS_seq
  apply wpS_region
  simp [wpOpsS, go_sem, recoverD, hu, Try.ntmps36, Exit.thenS]
  refine wpS_cond (t := false) (by simp [Act.eval, Array.replicate]) ?_
  simp only [Bool.false_eq_true, if_false]
  refine wpS_of_wp (wp_skip ?_)
  cases c₀
  simp_all [bodyPostS, results, Try.results36]

end Go.Proofs.Ytidhbgidkgopfaa
