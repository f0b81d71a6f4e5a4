/-
  The reference's peephole: what its round's ways share; its loop's body.
-/
import Derived.Test.YtpahhhhfhnpmjaaSb
namespace Go.Proofs.Ytpahhhhfhnpmjaa
open Go.RowKit Go.Shelf
set_option maxRecDepth 100000

def firstLoop : Code → Option Code
  | .loop c => some c
  | .seq a b => match firstLoop a with
    | some c => some c
    | none => firstLoop b
  | .block _ c => firstLoop c
  | .scope c => firstLoop c
  | .cond _ a b => match firstLoop a with
    | some c => some c
    | none => firstLoop b
  | _ => none
noncomputable def body9 : Code := ((Try.f9.body.bind firstLoop).getD .skip)

theorem made_at (W : World) (n base : Nat) (hn : n = W.heap.size) (hb : base ≤ W.heap.size) : (W.alloc (.cells #[] 51)).ownsRow base 51 3 (.slice (some ⟨n, 0, none⟩) 0 0) 0 [] := by
  subst hn
  exact World.ownsRow_made W #[] 0 hb (Nat.zero_le _) rfl

theorem new_cell (W : World) (cs : Array Value) (t : TypeId) (n i : Nat) (v : Value) (hn : n = W.heap.size) (hv : cs[i]? = some v) : (W.alloc (.cells cs t)).cell? ⟨n, i, none⟩ = some v := by
  subst hn
  rw [Lib.cell_of_heap (_root_.Go.heap_alloc_new W _)]
  exact hv
theorem old_cell (W : World) (o : Obj) (b i : Nat) (v : Value) (hb : b < W.heap.size) (hv : W.cell? ⟨b, i, none⟩ = some v) : (W.alloc o).cell? ⟨b, i, none⟩ = some v := (((Below.refl W.heap.size W).alloc (Nat.le_refl _) o).cell (p := ⟨b, i, none⟩) hb).trans hv
theorem pk_start {a : Option Addr} {cap : Nat} {code : List Mc.Ins} {d : Int} {w w1 wA : World} {m g gc : Nat} (h0 : 0 < code.length) (h1 : code.length ≤ 2048) (hI : ImgAt w1 a code) (hap : ∀ b off, a = some ⟨b, off, none⟩ → b < w.heap.size) (hB : Below w.heap.size w w1) (hs : w.heap.size + 2 ≤ w1.heap.size)
    (hY : w1.cell? ⟨w.heap.size + 1, 0, none⟩ = some (.slice none 0 0) ∧ w1.cell? ⟨w.heap.size + 1, 1, none⟩ = some (.int .i64 0) ∧ w1.frozen? ⟨w.heap.size + 1, 0, none⟩ = false ∧ w1.frozen? ⟨w.heap.size + 1, 1, none⟩ = false ∧ w1.cell? ⟨w.heap.size, 1, none⟩ = some (.int .i64 d))
    (ha : w1.cell? ⟨w.heap.size, 0, none⟩ = some (.slice a code.length cap)) (hM : BRow w1 m (Mc.marks code))
    (hG : ((w1.alloc (.cells #[.slice (some ⟨m, 0, none⟩) code.length code.length] 25)).alloc (.cells #[] 51)).grownBy wA (some (w1.heap.size + 1))) (hC : CRow wA g code ∧ w1.heap.size + 1 ≤ g ∧ code.length ≤ gc) :
    Pk a cap code d w w1.heap.size wA.heap.size (wA.heap.size + 1) (wA.heap.size + 1 + 1) g gc m code (((wA.alloc (.cells #[.slice (some ⟨g, 0, none⟩) code.length gc] 22)).alloc (.cells #[.int .i64 21, .int .i64 0, .int .i64 0] 51)).alloc (.cells #[.func (.func 19) #[] #[.pointer (some ⟨wA.heap.size, 0, none⟩)]] 52)) := by
  have hz : w1.heap.size + 2 ≤ wA.heap.size := by have := hG.size; simp at this; omega
  have hgl := hC.1.lt
  have hF : Below wA.heap.size wA (((wA.alloc (.cells #[.slice (some ⟨g, 0, none⟩) code.length gc] 22)).alloc (.cells #[.int .i64 21, .int .i64 0, .int .i64 0] 51)).alloc (.cells #[.func (.func 19) #[] #[.pointer (some ⟨wA.heap.size, 0, none⟩)]] 52)) := (((Below.refl _ _).alloc (Nat.le_refl _) _).alloc (by simp) _).alloc (by simp; omega) _
  have hB1 : Below w1.heap.size w1 ((w1.alloc (.cells #[.slice (some ⟨m, 0, none⟩) code.length code.length] 25)).alloc (.cells #[] 51)) := ((Below.refl _ _).alloc (Nat.le_refl _) _).alloc (by simp) _
  have hBA : Below w1.heap.size w1 wA := below_grew hB1 hG (by simp; omega) (fun k e => by have := Option.some.inj e; omega)
  have hBF := hBA.trans (hF.mono (by omega))
  have hmb : wA.cell? ⟨w1.heap.size, 0, none⟩ = some (.slice (some ⟨m, 0, none⟩) code.length code.length) := (World.cell?_of_block (a := ⟨w1.heap.size, 0, none⟩) (hG.block w1.heap.size (by simp; omega) (fun e => by have := Option.some.inj e; omega))).trans (old_cell _ _ _ _ _ (by simp) (new_cell _ _ _ _ _ _ rfl rfl))
  have hml := hM.lt
  refine ⟨⟨hI.later hBF, fun b off e => by have := hap b off e; omega, hC.1.later hF, hM.later hBF, by omega, rfl, Mc.marksTo_len code _, h0, h1⟩, hB.trans (hBF.mono hB.size), (hBF.cell (p := ⟨w.heap.size, 0, none⟩) (by show w.heap.size < _; omega)).trans ha, (hBF.cell (p := ⟨w.heap.size, 1, none⟩) (by show w.heap.size < _; omega)).trans hY.2.2.2.2, (hBF.cell (p := ⟨w.heap.size + 1, 0, none⟩) (by show w.heap.size + 1 < _; omega)).trans hY.1, (hBF.cell (p := ⟨w.heap.size + 1, 1, none⟩) (by show w.heap.size + 1 < _; omega)).trans hY.2.1,
    (hBF.frozen (p := ⟨w.heap.size + 1, 0, none⟩) (by show w.heap.size + 1 < _; omega)).trans hY.2.2.1, (hBF.frozen (p := ⟨w.heap.size + 1, 1, none⟩) (by show w.heap.size + 1 < _; omega)).trans hY.2.2.2.1, (hF.cell (p := ⟨w1.heap.size, 0, none⟩) (by show w1.heap.size < _; omega)).trans hmb, ?_, ?_, ?_, ?_, ?_, by omega, by omega, by omega, by omega, by simp <;> omega, by simp <;> omega, by simp <;> omega, by simp <;> omega, by omega⟩
  · exact old_cell _ _ _ _ _ (by simp; omega) (old_cell _ _ _ _ _ (by simp) (new_cell _ _ _ _ _ _ rfl rfl))
  · exact old_cell _ _ _ _ _ (by simp) (new_cell _ _ _ _ _ _ (by simp) rfl)
  · exact old_cell _ _ _ _ _ (by simp) (new_cell _ _ _ _ _ _ (by simp) rfl)
  · exact old_cell _ _ _ _ _ (by simp) (new_cell _ _ _ _ _ _ (by simp) rfl)
  · exact new_cell _ _ _ _ _ _ (by simp) rfl

theorem Pk.drew {a : Option Addr} {cap : Nat} {was : List Mc.Ins} {d : Int} {w : World} {mb cb nb ib g gc m : Nat} {c : List Mc.Ins} {W : World} (h : Pk a cap was d w mb cb nb ib g gc m c W) : Pk a cap was d w mb cb nb ib g gc m c W.drew :=
  h.look h.hole.code.drew rfl (grown_drew (grown_refl _ _))
theorem Pk.put {a : Option Addr} {cap : Nat} {was : List Mc.Ins} {d : Int} {w : World} {mb cb nb ib g gc m : Nat} {c : List Mc.Ins} {W : World} (h : Pk a cap was d w mb cb nb ib g gc m c W) (j : Nat) (hj : j < was.length) (yo ya yb : Int) :
    Pk a cap was d w mb cb nb ib g gc m (c.set j ⟨yo, ya, yb⟩) (((W.setCell ⟨g, j * 3, none⟩ (.int .i64 yo)).setCell ⟨g, j * 3 + 1, none⟩ (.int .i64 ya)).setCell ⟨g, j * 3 + 2, none⟩ (.int .i64 yb)) :=
  h.look (h.hole.code.put3 j (by rw [h.hole.lc]; exact hj) ⟨yo, ya, yb⟩) (List.length_set ..) (put3_grown W g j ⟨yo, ya, yb⟩)

end Go.Proofs.Ytpahhhhfhnpmjaa
