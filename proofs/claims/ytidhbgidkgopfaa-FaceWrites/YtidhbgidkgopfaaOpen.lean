/-
  What comes in, opened: a face (a name, and a slice of items, four cells each) and a text.
-/
import Derived.Test.YtidhbgidkgopfaaFg
import Derived.Test.YtidhbgidkgopfaaRows
import Derived.WalkKit
import Derived.ProofKit
import Derived.OpenShut
import Derived.SizedLaws
import Derived.Deep.Strs
import Derived.Lib.SmallJoins
import Derived.ChangeMaps5
namespace Go.Proofs.Ytidhbgidkgopfaa
open Go.ChangeShapes Go.WideShapes Go.ChangeAt Go.RowKit Go.Deep

theorem ownTry : ownKnob Try.prog.godebug = none := by kernel_rfl
theorem laidOutTry : laidOutB Try.prog = true := by kernel_rfl
theorem cells40 : Try.prog.cellsOf 40 = 4 := by kernel_rfl
theorem cells24 : Try.prog.cellsOf 24 = 2 := by kernel_rfl
theorem cells22 : Try.prog.cellsOf 22 = 1 := by kernel_rfl
theorem cells3 : Try.prog.cellsOf 3 = 1 := by kernel_rfl
theorem cells9 : Try.prog.cellsOf 9 = 1 := by kernel_rfl
theorem bytes40 : Try.prog.bytesOf 40 = 40 := by kernel_rfl

theorem open_items {H : Type} {enc : TypeId × Value → H} {W : World} {a0 : Option Addr} {len cap fuel : Nat} {x : DataW H × List MemPlace}
    (h : DataW.trod enc Try.prog W 0 (fun _ => true) true fuel 22 [.slice a0 len cap] = some x) :
    ∃ ts : List It, ts.length = len ∧ ItemsAt W a0 ts ∧ AllFit ts ∧ (x.1 = .nil ∧ len = 0 ∨ ∃ el sp, x.1 = .slice el sp ∧ el.length = len) := by
  rcases open_slice Try.underlying22 h with ⟨hcs, hx⟩ | ⟨a, len', cap', m, n, D, Pl, hcs, _, hl, hm, hmm, hx, hel⟩
  · simp at hcs
    obtain ⟨rfl, rfl, rfl⟩ := hcs
    exact ⟨[], rfl, Or.inl rfl, fun _ h => (by cases h), Or.inl ⟨by rw [hx], rfl⟩⟩
  · simp at hcs
    obtain ⟨rfl, rfl, rfl⟩ := hcs
    simp only [if_true] at hmm
    subst hmm
    rw [cells40] at hel hx
    have key : ∀ i, i < m → ∃ t : It, W.cell? (a.add (i * 4)) = some (.int .i64 t.kind) ∧ W.cell? (a.add (i * 4 + 1)) = some (.int .i64 t.n) ∧ W.cell? (a.add (i * 4 + 2)) = some (.int .i64 t.at_) ∧ W.cell? (a.add (i * 4 + 3)) = some (.string t.name) ∧ t.name.size ≤ maxLen := by
      intro i hi
      obtain ⟨cs', h1, h2⟩ := hel i hi
      obtain ⟨_, hlen, hcell⟩ := World.cells?_some h1
      obtain ⟨y0, y1, y2, y3, k, _, _, f0, f1, f2, f3⟩ := Go.Joins.trod_struct4 Try.underlying40 h2
      match cs', hlen with
      | [x0, x1, x2, x3], _ =>
        simp only [cells3, cells9] at f0 f1 f2 f3
        obtain ⟨n0, e0, _, _⟩ := DataW.trod_int Try.underlying3 f0
        obtain ⟨n1, e1, _, w1⟩ := DataW.trod_int Try.underlying3 f1
        obtain ⟨n2, e2, _, w2⟩ := DataW.trod_int Try.underlying3 f2
        obtain ⟨s3, e3, _, hs3⟩ := DataW.trod_string Try.underlying9 f3
        simp at e0 e1 e2 e3
        subst e0 e1 e2 e3
        refine ⟨⟨n0, n1, n2, s3⟩, ?_, ?_, ?_, ?_, hs3⟩
        · have := hcell 0 (by omega); rw [add_add] at this; simpa using this
        · have := hcell 1 (by omega); rw [add_add] at this; simpa using this
        · have := hcell 2 (by omega); rw [add_add] at this; simpa using this
        · have := hcell 3 (by omega); rw [add_add] at this; simpa using this
    by_cases h0 : len = 0
    · subst h0
      exact ⟨[], rfl, Or.inl rfl, fun _ h => (by cases h), Or.inr ⟨_, _, by rw [hx], by simp⟩⟩
    · obtain ⟨b, off, spot⟩ := a
      haveI : Inhabited It := ⟨⟨0, 0, 0, ⟨#[]⟩⟩⟩
      obtain ⟨f, hf⟩ := choose_lt (α := It) key
      have hspot : spot = none := by simpa [Addr.add] using World.cell?_spot (hf 0 (by omega)).1
      subst hspot
      refine ⟨(List.range len).map f, by simp, Or.inr ⟨b, off, rfl, ?_, ?_, ?_, ?_, ?_⟩, ?_, Or.inr ⟨_, _, by rw [hx], by simp⟩⟩
      · exact World.block_lt_of_cell? W _ (hf 0 (by omega)).1
      · intro i hi
        simp at hi
        have g := (hf i (by omega)).1
        rw [add_plain] at g
        simpa using g
      · intro i hi
        simp at hi
        have g := (hf i (by omega)).2.1
        rw [add_plain] at g
        simpa [Nat.add_assoc] using g
      · intro i hi
        simp at hi
        have g := (hf i (by omega)).2.2.1
        rw [add_plain] at g
        simpa [Nat.add_assoc] using g
      · intro i hi
        simp at hi
        have g := (hf i (by omega)).2.2.2.1
        rw [add_plain] at g
        simpa [Nat.add_assoc] using g
      · intro t ht
        simp only [List.mem_map, List.mem_range] at ht
        obtain ⟨i, hi, rfl⟩ := ht
        exact (hf i (by omega)).2.2.2.2

theorem open_face {H : Type} {enc : TypeId × Value → H} {W : World} {v : Value} {d : DataW H} {p : List MemPlace} {r : Reach} {base : Nat} (hv : Value.okWide Try.prog W r base 24 v)
    (h : DataW.Trod enc Try.prog W 0 (fun _ => true) true 24 v d p) :
    ∃ a0 cap, ∃ f : Fc, v = .agg #[.string f.name, .slice a0 f.items.length cap] ∧ ItemsAt W a0 f.items ∧ AllFit f.items ∧ f.name.size ≤ maxLen ∧ (f.items.length = 0 ∨ ∃ el sp y, d = .agg [y, .slice el sp] ∧ el.length = f.items.length) := by
  obtain ⟨cs, rfl, hsz⟩ := okWide_struct Try.underlying24 hv
  obtain ⟨fuel, hf⟩ := h
  obtain ⟨y0, y1, k, hx, hl, f0, f1⟩ := trod_struct2 Try.underlying24 hf
  rw [cells24] at hsz
  obtain ⟨cs⟩ := cs
  match cs, hsz with
  | [c0, c1], _ =>
    simp only [cells9, cells22, Value.cells] at f0 f1
    obtain ⟨s0, e0, _, hs0⟩ := DataW.trod_string Try.underlying9 f0
    simp at e0
    subst e0
    have f1' : DataW.trod enc Try.prog W 0 (fun _ => true) true k 22 [c1] = some y1 := f1
    have hc : ∃ a0 len cap, c1 = .slice a0 len cap := by
      rcases open_slice Try.underlying22 f1' with ⟨hcs, _⟩ | ⟨a, len', cap', m, n, D, Pl, hcs, _⟩
      · exact ⟨none, 0, 0, by simpa using hcs⟩
      · exact ⟨_, _, _, by simpa using hcs⟩
    obtain ⟨a0, len, cap, rfl⟩ := hc
    obtain ⟨ts, rfl, hT, hfit, hd⟩ := open_items f1'
    refine ⟨a0, cap, ⟨s0, ts⟩, rfl, hT, hfit, hs0, ?_⟩
    rcases hd with ⟨_, h0⟩ | ⟨el, sp, e, hel⟩
    · exact Or.inl h0
    · refine Or.inr ⟨el, sp, y0.1, ?_, hel⟩
      have := congrArg Prod.fst hx
      simpa [e] using this

theorem sized_face {H : Type} {ts : List TypeId} {ds : List (DataW H)} (h : (DataW.weightsEach Try.prog ts ds).all (· ≤ reachBytes) = true) {el sp : List (DataW H)} {y : DataW H} (ht : ts[0]? = some 24) (hd : ds[0]? = some (.agg [y, .slice el sp])) : el.length ≤ 1000000000000000 := by
  have := List.all_eq_true.1 h _ (DataW.weights_mem_each ht hd ((el.length + sp.length) * Try.prog.bytesOf 40) (by simp [DataW.weights, Try.underlying24, DataW.weightsEach, Try.underlying22]))
  have h2 : (el.length + sp.length) * Try.prog.bytesOf 40 ≤ reachBytes := by simpa using this
  rw [bytes40] at h2
  simp only [reachBytes] at h2
  omega
theorem sized_text {H : Type} {ts : List TypeId} {ds : List (DataW H)} (h : (DataW.weightsEach Try.prog ts ds).all (· ≤ reachBytes) = true) {l : List UInt8} (ht : ts[1]? = some 9) (hd : ds[1]? = some (.lit (.string l))) : l.length ≤ 1000000000000000 := by
  have := sized_string h ht hd
  simp only [reachBytes] at this
  omega

end Go.Proofs.Ytidhbgidkgopfaa
