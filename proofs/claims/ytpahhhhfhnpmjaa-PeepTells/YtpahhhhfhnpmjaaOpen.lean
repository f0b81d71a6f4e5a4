/-
  What comes in, opened: an image (a slice of instructions, three cells each, and a number) and a slice of numbers.
-/
import Derived.Test.YtpahhhhfhnpmjaaMach
import Derived.Test.YtpahhhhfhnpmjaaRows
import Derived.WalkKit
import Derived.ProofKit
import Derived.OpenShut
import Derived.SizedLaws
import Derived.Deep.Strs
namespace Go.Proofs.Ytpahhhhfhnpmjaa
open Go.ChangeShapes Go.WideShapes Go.ChangeAt Go.RowKit Go.Deep

theorem ownTry : ownKnob Try.prog.godebug = none := by kernel_rfl
theorem laidOutTry : laidOutB Try.prog = true := by kernel_rfl
theorem cells51 : Try.prog.cellsOf 51 = 3 := by kernel_rfl
theorem cells24 : Try.prog.cellsOf 24 = 2 := by kernel_rfl
theorem cells22 : Try.prog.cellsOf 22 = 1 := by kernel_rfl
theorem cells3 : Try.prog.cellsOf 3 = 1 := by kernel_rfl
theorem bytes51 : Try.prog.bytesOf 51 = 24 := by kernel_rfl
theorem bytes3 : Try.prog.bytesOf 3 = 8 := by kernel_rfl
theorem fit_of_wf {n : Int} (h : (Lit.int .i64 n).wf = true) : fit64 n := by
  simp [Lit.wf, IntKind.min, IntKind.max, IntKind.bits, IntKind.signed] at h
  exact h

theorem open_code {H : Type} {enc : TypeId × Value → H} {W : World} {a0 : Option Addr} {len cap fuel : Nat} {x : DataW H × List MemPlace}
    (h : DataW.trod enc Try.prog W 0 (fun _ => true) true fuel 22 [.slice a0 len cap] = some x) :
    ∃ ts : List Mc.Ins, ts.length = len ∧ ImgAt W a0 ts ∧ (∀ i ∈ ts, InsFit i) ∧ (x.1 = .nil ∧ len = 0 ∨ ∃ el sp, x.1 = .slice el sp ∧ el.length = len) := by
  rcases open_slice Try.underlying22 h with ⟨hcs, hx⟩ | ⟨a, len', cap', m, n, D, Pl, hcs, _, hl, hm, hmm, hx, hel⟩
  · simp at hcs
    obtain ⟨rfl, rfl, rfl⟩ := hcs
    exact ⟨[], rfl, Or.inl rfl, fun _ h => (by cases h), Or.inl ⟨by rw [hx], rfl⟩⟩
  · simp at hcs
    obtain ⟨rfl, rfl, rfl⟩ := hcs
    simp only [if_true] at hmm
    subst hmm
    rw [cells51] at hel hx
    have key : ∀ i, i < m → ∃ t : Mc.Ins, W.cell? (a.add (i * 3)) = some (.int .i64 t.op) ∧ W.cell? (a.add (i * 3 + 1)) = some (.int .i64 t.a) ∧ W.cell? (a.add (i * 3 + 2)) = some (.int .i64 t.b) ∧ InsFit t := by
      intro i hi
      obtain ⟨cs', h1, h2⟩ := hel i hi
      obtain ⟨_, hlen, hcell⟩ := World.cells?_some h1
      obtain ⟨y0, y1, y2, k, _, _, f0, f1, f2⟩ := trod_struct3 Try.underlying51 h2
      match cs', hlen with
      | [x0, x1, x2], _ =>
        simp only [cells3] at f0 f1 f2
        obtain ⟨n0, e0, _, _⟩ := DataW.trod_int Try.underlying3 f0
        obtain ⟨n1, e1, _, w1⟩ := DataW.trod_int Try.underlying3 f1
        obtain ⟨n2, e2, _, w2⟩ := DataW.trod_int Try.underlying3 f2
        simp at e0 e1 e2
        subst e0 e1 e2
        refine ⟨⟨n0, n1, n2⟩, ?_, ?_, ?_, fit_of_wf w1, fit_of_wf w2⟩
        · have := hcell 0 (by omega); rw [add_add] at this; simpa using this
        · have := hcell 1 (by omega); rw [add_add] at this; simpa using this
        · have := hcell 2 (by omega); rw [add_add] at this; simpa using this
    by_cases h0 : len = 0
    · subst h0
      exact ⟨[], rfl, Or.inl rfl, fun _ h => (by cases h), Or.inr ⟨_, _, by rw [hx], by simp⟩⟩
    · obtain ⟨b, off, spot⟩ := a
      haveI : Inhabited Mc.Ins := ⟨⟨0, 0, 0⟩⟩
      obtain ⟨f, hf⟩ := choose_lt (α := Mc.Ins) key
      have hspot : spot = none := by simpa [Addr.add] using World.cell?_spot (hf 0 (by omega)).1
      subst hspot
      refine ⟨(List.range len).map f, by simp, Or.inr ⟨b, off, rfl, ?_, ?_⟩, ?_, Or.inr ⟨_, _, by rw [hx], by simp⟩⟩
      · exact World.block_lt_of_cell? W _ (hf 0 (by omega)).1
      · intro i hi
        simp at hi
        obtain ⟨g0, g1, g2, _⟩ := hf i (by omega)
        rw [add_plain] at g0 g1 g2
        exact ⟨by simpa using g0, by simpa [Nat.add_assoc] using g1, by simpa [Nat.add_assoc] using g2⟩
      · intro t ht
        simp only [List.mem_map, List.mem_range] at ht
        obtain ⟨i, hi, rfl⟩ := ht
        exact (hf i (by omega)).2.2.2

theorem open_nums {H : Type} {enc : TypeId × Value → H} {W : World} {a0 : Option Addr} {len cap fuel : Nat} {x : DataW H × List MemPlace}
    (h : DataW.trod enc Try.prog W 0 (fun _ => true) true fuel 37 [.slice a0 len cap] = some x) :
    ∃ l : List Int, l.length = len ∧ NumsAt W a0 l ∧ len ≤ cap ∧ cap ≤ maxLen ∧ (∀ i ∈ l, fit64 i) ∧ (x.1 = .nil ∧ len = 0 ∨ ∃ el sp, x.1 = .slice el sp ∧ el.length = len) := by
  rcases open_slice1 Try.underlying37 cells3 h with ⟨hcs, hx⟩ | ⟨a, len', cap', m, n, V, D, Pl, hcs, _, hl, hm, hmm, hx, hel⟩
  · simp at hcs
    obtain ⟨rfl, rfl, rfl⟩ := hcs
    exact ⟨[], rfl, Or.inl rfl, Nat.le_refl _, Nat.zero_le _, fun _ h => (by cases h), Or.inl ⟨by rw [hx], rfl⟩⟩
  · simp at hcs
    obtain ⟨rfl, rfl, rfl⟩ := hcs
    simp only [if_true] at hmm
    subst hmm
    have key : ∀ i, i < m → ∃ t : Int, W.cell? (a.add i) = some (.int .i64 t) ∧ fit64 t := by
      intro i hi
      obtain ⟨h1, h2⟩ := hel i hi
      obtain ⟨n0, e0, _, w0⟩ := DataW.trod_int Try.underlying3 h2
      simp at e0
      rw [e0] at h1
      exact ⟨n0, h1, fit_of_wf w0⟩
    by_cases h0 : len = 0
    · subst h0
      exact ⟨[], rfl, Or.inl rfl, hl, hm, fun _ h => (by cases h), Or.inr ⟨_, _, by rw [hx], by simp⟩⟩
    · obtain ⟨b, off, spot⟩ := a
      obtain ⟨f, hf⟩ := choose_lt (α := Int) key
      have hspot : spot = none := by simpa [Addr.add] using World.cell?_spot (hf 0 (by omega)).1
      subst hspot
      refine ⟨(List.range len).map f, by simp, Or.inr ⟨b, off, rfl, ?_, ?_⟩, hl, hm, ?_, Or.inr ⟨_, _, by rw [hx], by simp⟩⟩
      · exact World.block_lt_of_cell? W _ (hf 0 (by omega)).1
      · intro i hi
        simp at hi
        have g0 := (hf i (by omega)).1
        rw [add_plain] at g0
        simpa using g0
      · intro t ht
        simp only [List.mem_map, List.mem_range] at ht
        obtain ⟨i, hi, rfl⟩ := ht
        exact (hf i (by omega)).2

theorem open_image {H : Type} {enc : TypeId × Value → H} {W : World} {v : Value} {d : DataW H} {p : List MemPlace} {r : Reach} {base : Nat} (hv : Value.okWide Try.prog W r base 24 v)
    (h : DataW.Trod enc Try.prog W 0 (fun _ => true) true 24 v d p) :
    ∃ a0 cap n, ∃ ts : List Mc.Ins, v = .agg #[.slice a0 ts.length cap, .int .i64 n] ∧ ImgAt W a0 ts ∧ (∀ i ∈ ts, InsFit i) ∧ (ts.length = 0 ∨ ∃ el sp y, d = .agg [.slice el sp, y] ∧ el.length = ts.length) := by
  obtain ⟨cs, rfl, hsz⟩ := okWide_struct Try.underlying24 hv
  obtain ⟨fuel, hf⟩ := h
  obtain ⟨y0, y1, k, hx, hl, f0, f1⟩ := trod_struct2 Try.underlying24 hf
  rw [cells24] at hsz
  obtain ⟨cs⟩ := cs
  match cs, hsz with
  | [c0, c1], _ =>
    simp only [cells3, cells22, Value.cells] at f0 f1
    obtain ⟨n1, e1, _, _⟩ := DataW.trod_int Try.underlying3 f1
    simp at e1
    subst e1
    have f0' : DataW.trod enc Try.prog W 0 (fun _ => true) true k 22 [c0] = some y0 := f0
    have hc : ∃ a0 len cap, c0 = .slice a0 len cap := by
      rcases open_slice Try.underlying22 f0' with ⟨hcs, _⟩ | ⟨a, len', cap', m, n, D, Pl, hcs, _⟩
      · exact ⟨none, 0, 0, by simpa using hcs⟩
      · exact ⟨_, _, _, by simpa using hcs⟩
    obtain ⟨a0, len, cap, rfl⟩ := hc
    obtain ⟨ts, rfl, hT, hfit, hd⟩ := open_code f0'
    refine ⟨a0, cap, n1, ts, rfl, hT, hfit, ?_⟩
    rcases hd with ⟨_, h0⟩ | ⟨el, sp, e, hel⟩
    · exact Or.inl h0
    · refine Or.inr ⟨el, sp, y1.1, ?_, hel⟩
      have := congrArg Prod.fst hx
      simpa [e] using this

theorem sized_image {H : Type} {ts : List TypeId} {ds : List (DataW H)} (h : (DataW.weightsEach Try.prog ts ds).all (· ≤ reachBytes) = true) {el sp : List (DataW H)} {y : DataW H} (ht : ts[0]? = some 24) (hd : ds[0]? = some (.agg [.slice el sp, y])) : el.length ≤ 1000000000000000 := by
  have := List.all_eq_true.1 h _ (DataW.weights_mem_each ht hd ((el.length + sp.length) * Try.prog.bytesOf 51) (by simp [DataW.weights, Try.underlying24, DataW.weightsEach, Try.underlying22]))
  have h2 : (el.length + sp.length) * Try.prog.bytesOf 51 ≤ reachBytes := by simpa using this
  rw [bytes51] at h2
  simp only [reachBytes] at h2
  omega
theorem sized_nums {H : Type} {ts : List TypeId} {ds : List (DataW H)} (h : (DataW.weightsEach Try.prog ts ds).all (· ≤ reachBytes) = true) {el sp : List (DataW H)} (ht : ts[1]? = some 37) (hd : ds[1]? = some (.slice el sp)) : el.length ≤ 1000000000000000 := by
  have := sized_slice h ht hd Try.underlying37
  rw [bytes3] at this
  simp only [reachBytes] at this
  omega

end Go.Proofs.Ytpahhhhfhnpmjaa
