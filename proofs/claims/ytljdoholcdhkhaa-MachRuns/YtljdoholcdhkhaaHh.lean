/-
  The reference's machine does an instruction, whichever; what of it stays within bounds.
-/
import Derived.Test.YtljdoholcdhkhaaHb
import Derived.Test.YtljdoholcdhkhaaHc
import Derived.Test.YtljdoholcdhkhaaHd
import Derived.Test.YtljdoholcdhkhaaHe
import Derived.Test.YtljdoholcdhkhaaHf
import Derived.Test.YtljdoholcdhkhaaHg
namespace Go.Proofs.Ytljdoholcdhkhaa
open Go.RowKit Go.Shelf
set_option maxRecDepth 100000

theorem gdo_any (B R : Nat) (mt : Int) (w0 : World) (F : Value) (L : List Value) (g : Rg.G) (i : Mc.Ins) (w : World) (h : Gch B R mt w0 (F, none) L w g) (hp : DoOk g i) (hop : 1 ≤ i.op ∧ i.op ≤ 22) : GDoes B R mt w0 g i w := by
  obtain ⟨op, a, b⟩ := i
  have hc : op = 1 ∨ op = 2 ∨ op = 3 ∨ op = 4 ∨ op = 5 ∨ op = 6 ∨ op = 7 ∨ op = 8 ∨ op = 9 ∨ op = 10 ∨ op = 11 ∨ op = 12 ∨ op = 13 ∨ op = 14 ∨ op = 15 ∨ op = 16 ∨ op = 17 ∨ op = 18 ∨ op = 19 ∨ op = 20 ∨ op = 21 ∨ op = 22 := by
    simp only at hop
    omega
  rcases hc with rfl | rfl | rfl | rfl | rfl | rfl | rfl | rfl | rfl | rfl | rfl | rfl | rfl | rfl | rfl | rfl | rfl | rfl | rfl | rfl | rfl | rfl
  · exact gdo1 B R mt w0 F L g a b w h hp
  · exact gdo2 B R mt w0 F L g a b w h hp
  · exact gdo3 B R mt w0 F L g a b w h hp
  · exact gdo4 B R mt w0 F L g a b w h hp
  · exact gdo5 B R mt w0 F L g a b w h hp
  · exact gdo6 B R mt w0 F L g a b w h hp
  · exact gdo7 B R mt w0 F L g a b w h hp
  · exact gdo8 B R mt w0 F L g a b w h hp
  · exact gdo9 B R mt w0 F L g a b w h hp
  · exact gdo10 B R mt w0 F L g a b w h hp
  · exact gdo11 B R mt w0 F L g a b w h hp
  · exact gdo12 B R mt w0 F L g a b w h hp
  · exact gdo13 B R mt w0 F L g a b w h hp
  · exact gdo14 B R mt w0 F L g a b w h hp
  · exact gdo15 B R mt w0 F L g a b w h hp
  · exact gdo16 B R mt w0 F L g a b w h hp
  · exact gdo17 B R mt w0 F L g a b w h hp
  · exact gdo18 B R mt w0 F L g a b w h hp
  · exact gdo19 B R mt w0 F L g a b w h hp
  · exact gdo20 B R mt w0 F L g a b w h hp
  · exact gdo21 B R mt w0 F L g a b w h hp
  · exact gdo22 B R mt w0 F L g a b w h hp

/- the frames' number, and the steps, as they go -/
structure Fine (g g' : Rg.G) : Prop where
  st : g'.s.steps = g.s.steps
  gs : g'.s.gs = g.s.gs
theorem Fine.refl (g : Rg.G) : Fine g g := ⟨rfl, rfl⟩
theorem Fine.trans {a b c : Rg.G} (h : Fine a b) (k : Fine b c) : Fine a c := ⟨k.st.trans h.st, k.gs.trans h.gs⟩
theorem fine_stop (e : Int) (g : Rg.G) : Fine g (Rg.stop e g) := by unfold Rg.stop; split <;> exact ⟨rfl, rfl⟩
theorem fine_pop (g : Rg.G) : Fine g (Rg.pop g).2 := by
  unfold Rg.pop; split
  · exact ⟨rfl, rfl⟩
  · exact fine_stop 6 g
theorem fine_full (g : Rg.G) : Fine g (Rg.full g) := by
  unfold Rg.full; split
  · exact Fine.refl g
  · exact fine_stop 6 g
theorem fine_put (n : Int) (g : Rg.G) : Fine g (Rg.put n g) := by unfold Rg.put; split <;> exact ⟨rfl, rfl⟩
theorem fine_push (n : Int) (g : Rg.G) : Fine g (Rg.push n g) := (fine_full g).trans (fine_put n _)
theorem fine_late (mt : Int) (g : Rg.G) : Fine g (Rg.late mt g) := by
  unfold Rg.late; split
  · exact fine_stop 3 g
  · exact Fine.refl g
theorem fine_tick (mt : Int) (g : Rg.G) : Fine g (Rg.tick mt g) := (fine_late mt g).trans (by unfold Rg.tick Rg.ticked; split <;> exact ⟨rfl, rfl⟩)
theorem fine_loc (a : Int) (g : Rg.G) : Fine g (Rg.loc a g) := by
  unfold Rg.loc; split
  · exact Fine.refl g
  · exact fine_stop 6 g
theorem fine_dat (a : Int) (g : Rg.G) : Fine g (Rg.dat a g) := by
  unfold Rg.dat; split
  · exact Fine.refl g
  · exact fine_stop 6 g
theorem fine_at (n : Int) (g : Rg.G) : Fine g (Rg.at_ n g) := ⟨rfl, rfl⟩
theorem fine_putLo (a n : Int) (g : Rg.G) : Fine g (Rg.putLo a n g) := by unfold Rg.putLo; split <;> exact ⟨rfl, rfl⟩
theorem fine_putDa (a n : Int) (g : Rg.G) : Fine g (Rg.putDa a n g) := by unfold Rg.putDa; split <;> exact ⟨rfl, rfl⟩
theorem fine_pushLo (a : Int) (g : Rg.G) : Fine g (Rg.pushLo a g) := by
  unfold Rg.pushLo; split
  · exact Fine.refl g
  · exact fine_push _ g
theorem fine_pushDa (a : Int) (g : Rg.G) : Fine g (Rg.pushDa a g) := by
  unfold Rg.pushDa; split
  · exact Fine.refl g
  · exact fine_push _ g
theorem fine_enter (a b : Int) (g : Rg.G) : Fine g (Rg.enter a b g) := by
  unfold Rg.enter; split
  · exact fine_stop 6 g
  · exact ⟨rfl, rfl⟩
theorem fine_outside (n b : Int) (g : Rg.G) : Fine g (Rg.outside n b g) := by
  unfold Rg.outside; split
  · exact fine_stop 2 g
  · exact Fine.refl g
theorem fine_isMath (a : Int) (g : Rg.G) : Fine g (Rg.isMath a g) := by
  unfold Rg.isMath; split
  · exact Fine.refl g
  · exact fine_stop 6 g
theorem fine_mathed (op a b : Int) (g : Rg.G) : Fine g (Rg.mathed op a b g) := by
  unfold Rg.mathed; split
  · exact fine_push _ g
  · exact (fine_stop 1 g).trans (fine_push 0 _)
theorem fine_fullOut (g : Rg.G) : Fine g (Rg.fullOut g) := by
  unfold Rg.fullOut; split
  · exact fine_stop 5 g
  · exact Fine.refl g
theorem fine_told (n : Int) (g : Rg.G) : Fine g (Rg.told n g) := by unfold Rg.told; split <;> exact ⟨rfl, rfl⟩
theorem fine_tailIn (g : Rg.G) : Fine g (Rg.tailIn g) := ⟨rfl, rfl⟩
theorem tick_st (mt : Int) (g : Rg.G) : (Rg.tick mt g).s.steps = g.s.steps := (fine_tick mt g).st
/- an instruction keeps the steps, and the frames' number in its bounds as long as nothing has ended -/
def Good (g g' : Rg.G) : Prop := g'.s.steps = g.s.steps ∧ (g.s.gs.length ≤ 24 → g'.o = false → g'.s.gs.length ≤ 24)
theorem Fine.good {g g' : Rg.G} (h : Fine g g') : Good g g' := ⟨h.st, fun k _ => by rw [h.gs]; exact k⟩
theorem ite_good {p : Prop} [Decidable p] {g x y : Rg.G} (hx : Good g x) (hy : Good g y) : Good g (if p then x else y) := by split <;> assumption
theorem good_call (mt a nx : Int) (g : Rg.G) : Good g (Rg.at_ a (Rg.called nx (Rg.deep (Rg.tick mt g)))) := by
  have hf := fine_tick mt g
  by_cases c : 24 < (Rg.tick mt g).s.gs.length + 1
  · have e : Rg.deep (Rg.tick mt g) = Rg.stop 4 (Rg.tick mt g) := if_pos c
    rw [e]
    refine ⟨((fine_stop 4 _).st).trans hf.st, fun _ h => ?_⟩
    have h' : (Rg.stop 4 (Rg.tick mt g)).o = false := h
    rw [stop_over] at h'
    cases h'
  · have e : Rg.deep (Rg.tick mt g) = Rg.tick mt g := if_neg c
    rw [e]
    refine ⟨hf.st, fun _ _ => ?_⟩
    show ((Rg.tick mt g).s.gs ++ [_]).length ≤ 24
    rw [List.length_append]
    simp only [List.length_cons, List.length_nil]
    omega
theorem good_ret (g : Rg.G) : Good g (match g.s.gs.getLast? with
    | none => Rg.stop 6 g
    | some f => Rg.at_ g.s.bk ⟨{ g.s with gs := g.s.gs.dropLast, lo := f.1, bk := f.2 }, g.o⟩) := by
  split
  · exact (fine_stop 6 g).good
  · refine ⟨rfl, fun h _ => ?_⟩
    show g.s.gs.dropLast.length ≤ 24
    rw [List.length_dropLast]
    omega
theorem good_do (mt : Int) (i : Mc.Ins) (g : Rg.G) : Good g (Rg.doI mt i g) := by
  unfold Rg.doI
  refine ite_good ((fine_push _ g).trans (fine_at _ _)).good ?_
  refine ite_good (((fine_loc _ g).trans (fine_pushLo _ _)).trans (fine_at _ _)).good ?_
  refine ite_good ((((fine_pop g).trans (fine_loc _ _)).trans (fine_putLo _ _ _)).trans (fine_at _ _)).good ?_
  refine ite_good (((fine_dat _ g).trans (fine_pushDa _ _)).trans (fine_at _ _)).good ?_
  refine ite_good ((((fine_pop g).trans (fine_dat _ _)).trans (fine_putDa _ _ _)).trans (fine_at _ _)).good ?_
  refine ite_good ((((fine_pop g).trans (fine_outside _ _ _)).trans (fine_push _ _)).trans (fine_at _ _)).good ?_
  refine ite_good ((((fine_pop g).trans (fine_dat _ _)).trans (fine_pushDa _ _)).trans (fine_at _ _)).good ?_
  refine ite_good (((((fine_pop g).trans (fine_pop _)).trans (fine_dat _ _)).trans (fine_putDa _ _ _)).trans (fine_at _ _)).good ?_
  refine ite_good (((fine_pop g).trans (fine_push _ _)).trans (fine_at _ _)).good ?_
  refine ite_good (((fine_pop g).trans (fine_push _ _)).trans (fine_at _ _)).good ?_
  refine ite_good (ite_good (((fine_isMath _ g).trans (fine_pop _)).trans (fine_pop _)).good (((((fine_isMath _ g).trans (fine_pop _)).trans (fine_pop _)).trans (fine_mathed _ _ _ _)).trans (fine_at _ _)).good) ?_
  refine ite_good (fine_at _ g).good ?_
  refine ite_good ((fine_pop g).trans (fine_at _ _)).good ?_
  refine ite_good (good_call mt _ _ g) ?_
  refine ite_good ((fine_enter _ _ g).trans (fine_at _ _)).good ?_
  refine ite_good (good_ret g) ?_
  refine ite_good ((fine_tick mt g).trans (fine_at _ _)).good ?_
  refine ite_good ((fine_pop g).trans (fine_at _ _)).good ?_
  refine ite_good (((fine_push _ g).trans (fine_tailIn _)).trans (fine_at _ _)).good ?_
  refine ite_good ((((fine_pop g).trans (fine_fullOut _)).trans (fine_told _ _)).trans (fine_at _ _)).good ?_
  refine ite_good ((fine_stop 0 g).trans (fine_at _ _)).good ?_
  exact (fine_at _ g).good

section
variable {B R : Nat} {mt : Int} {w0 w w' : World} {T : Nat → Nat} {v : Gv} {g : Rg.G} {F : Value} {X : Option (Nat × Obj)} {L : List Value}
theorem Gch.steps (h : Gch B R mt w0 (F, X) L w g) (n : Int) : Gch B R mt w0 (F, X) L w ⟨{ g.s with steps := n }, g.o⟩ := by
  obtain ⟨T, v, h, hX, hL⟩ := h
  exact ⟨T, v, { h with }, hX, hL⟩
end

end Go.Proofs.Ytljdoholcdhkhaa
