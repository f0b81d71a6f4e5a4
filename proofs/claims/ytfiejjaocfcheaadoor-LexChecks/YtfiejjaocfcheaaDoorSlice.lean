/-
  A slice of tokens that came in, opened: its tokens lie in memory one behind the other, three cells each.
-/
import Derived.Test.YtfiejjaocfcheaaDoorFrame
namespace Go.Proofs.YtfiejjaocfcheaaDoor
open Go.ChangeShapes Go.WideShapes Go.ChangeAt Go.RowKit Go.Deep

theorem open_toks {H : Type} {enc : TypeId × Value → H} {W : World} {a0 : Option Addr} {len cap fuel : Nat} {x : DataW H × List MemPlace}
    (h : DataW.trod enc Tryd.prog W 0 (fun _ => true) true fuel 22 [.slice a0 len cap] = some x) :
    ∃ ts : List Tk, ts.length = len ∧ ToksAt W a0 ts ∧ (x.1 = .nil ∨ ∃ el sp, x.1 = .slice el sp ∧ el.length = len) := by
  rcases open_slice Tryd.underlying22 h with ⟨hcs, hx⟩ | ⟨a, len', cap', m, n, D, Pl, hcs, _, hl, hm, hmm, hx, hel⟩
  · simp at hcs
    obtain ⟨rfl, rfl, rfl⟩ := hcs
    exact ⟨[], rfl, Or.inl rfl, Or.inl (by rw [hx])⟩
  · simp at hcs
    obtain ⟨rfl, rfl, rfl⟩ := hcs
    simp only [if_true] at hmm
    subst hmm
    rw [cells41] at hel hx
    have key : ∀ i, i < m → ∃ t : Tk, W.cell? (a.add (i * 3)) = some (.int .i64 t.kind) ∧ W.cell? (a.add (i * 3 + 1)) = some (.int .i64 t.n) ∧ W.cell? (a.add (i * 3 + 2)) = some (.string t.text) ∧ t.fits := by
      intro i hi
      obtain ⟨cs', h1, h2⟩ := hel i hi
      obtain ⟨_, hlen, hcell⟩ := World.cells?_some h1
      obtain ⟨y0, y1, y2, k, _, _, f0, f1, f2⟩ := trod_struct3 Tryd.underlying41 h2
      match cs', hlen with
      | [x0, x1, x2], _ =>
        simp only [cells3, cells9] at f0 f1 f2
        obtain ⟨n0, e0, _, _⟩ := DataW.trod_int Tryd.underlying3 f0
        obtain ⟨n1, e1, _, _⟩ := DataW.trod_int Tryd.underlying3 f1
        obtain ⟨s2, e2, _, hs2⟩ := DataW.trod_string Tryd.underlying9 f2
        simp at e0 e1 e2
        subst e0 e1 e2
        refine ⟨⟨n0, n1, s2⟩, ?_, ?_, ?_, hs2⟩
        · have := hcell 0 (by omega); rw [add_add] at this; simpa using this
        · have := hcell 1 (by omega); rw [add_add] at this; simpa using this
        · have := hcell 2 (by omega); rw [add_add] at this; simpa using this
    by_cases h0 : len = 0
    · subst h0
      exact ⟨[], rfl, Or.inl rfl, Or.inr ⟨_, _, by rw [hx], by simp⟩⟩
    · obtain ⟨b, off, spot⟩ := a
      haveI : Inhabited Tk := ⟨⟨0, 0, ⟨#[]⟩⟩⟩
      obtain ⟨f, hf⟩ := choose_lt (α := Tk) key
      have hspot : spot = none := by simpa [Addr.add] using World.cell?_spot (hf 0 (by omega)).1
      subst hspot
      refine ⟨(List.range len).map f, by simp, Or.inr ⟨b, off, rfl, ?_, ?_, ?_, ?_, ?_⟩, Or.inr ⟨_, _, by rw [hx], by simp⟩⟩
      · exact World.block_lt_of_cell? W _ (hf 0 (by omega)).1
      · intro i hi
        simp at hi
        have := (hf i (by omega)).1
        rw [add_plain] at this
        simpa using this
      · intro i hi
        simp at hi
        have := (hf i (by omega)).2.1
        rw [add_plain] at this
        simpa [Nat.add_assoc] using this
      · intro i hi
        simp at hi
        have := (hf i (by omega)).2.2.1
        rw [add_plain] at this
        simpa [Nat.add_assoc] using this
      · intro i hi
        simp at hi
        have := (hf i (by omega)).2.2.2
        simpa using this

end Go.Proofs.YtfiejjaocfcheaaDoor
