/-
  The program's reading of a whole text: all three ways.
-/
import Derived.Test.YtidhbgidkgopfaaFx
namespace Go.Proofs.Ytidhbgidkgopfaa
open Go.RowKit Go.Shelf
set_option maxRecDepth 100000

set_option maxHeartbeats 1600000 in
theorem Whole_ok (hcl : CloneOk) (l : List UInt8) (f : Fc) (w : World) (hl : l.length ≤ 1000000000000000) (hp : pFace l = some (f, [])) :
    Calls Try.prog 20 #[.string (strOf l), .func (.func 21) #[] #[]] w fun e w' => ∃ v, e = .returned (.tuple #[.agg #[.string f.name, v], .bool true]) ∧ Below w.heap.size w w' ∧ IRow w.heap.size w' v f.items := by
  have hmf : ∀ (fn : Fn) (first cap : Array Value) (w : World), (Instr.makeFunc fn first cap).run Try.prog w = .ok (.func fn first cap) w := fun _ _ _ _ => rfl
  obtain ⟨W2, hW2⟩ : ∃ W2, W2 = ((w.alloc (.cells #[.string ⟨#[]⟩, .slice none 0 0] 24)).alloc (.cells #[.bool false] 4)).alloc (.cells #[.string (strOf l)] 64) := ⟨_, rfl⟩
  have hX : Bf W2 w.heap.size (.string ⟨#[]⟩) (.slice none 0 0) := by rw [hW2]; exact ((Bf.new w 24 _ _).alloc _).alloc _
  have hK : B1 W2 (w.heap.size + 1) (.bool false) := by
    rw [hW2]
    have := (B1.new (w.alloc (.cells #[.string ⟨#[]⟩, .slice none 0 0] 24)) 4 (.bool false)).alloc (.cells #[.string (strOf l)] 64)
    simpa using this
  have hRd : Rdr W2 (w.heap.size + 2) l := by
    rw [hW2]
    have := Rdr.new ((w.alloc (.cells #[.string ⟨#[]⟩, .slice none 0 0] 24)).alloc (.cells #[.bool false] 4)) l 64
    simpa using this
  have hBl : Below w.heap.size w W2 := by
    rw [hW2]
    exact (((Below.refl _ _).alloc (Nat.le_refl _) _).alloc (by simp) _).alloc (by simp; omega) _
  have HC : Hid (Calls Try.prog 21 #[.pointer (some ⟨w.heap.size + 2, 0, none⟩)] W2 fun e w' => ∃ ad cap, e = .returned (.agg #[.string f.name, .slice ad f.items.length cap]) ∧ W2.grownBy w' (some (w.heap.size + 2)) ∧ IRow W2.heap.size w' (.slice ad f.items.length cap) f.items ∧ Rdr w' (w.heap.size + 2) []) := (face_any hcl _ l W2 hRd hl).mono fun e w' h => h.of_some hp
  have hz : w.heap.size + 2 < W2.heap.size := hRd.lt
  have HX := hid hX
  have HK := hid hK
  have HBl := hid hBl
  have HW := hid hW2
  have e0 : strOf ([] : List UInt8) = ⟨#[]⟩ := rfl
  clear hX hK hRd hBl hW2
  go_enter_defers Try.func20, Try.ntmps20
  go_wp2_with (go_at_call 21; rw [← HW.out]; refine HC.out.mono ?_; rintro e w1 ⟨ad, cap, rfl, hg, hrow, hrd⟩; have HG := hid hg; have hX1 := HX.out.kept hg (by simp); have HX1 := hid hX1; have hK1 := HK.out.kept hg (by simp); have HK1 := hid hK1; obtain ⟨xl, xc0, xc1, xf0, xf1⟩ := hX1; obtain ⟨kl, kc0, kf0⟩ := hK1; have hr0 := hrd.c0; rw [e0] at hr0; have HRow := hid hrow; clear hg hrow hrd)
  refine leaves_cons (f := 36) (args := #[.pointer (some ⟨w.heap.size, 0, none⟩), .pointer (some ⟨w.heap.size + 1, 0, none⟩)]) (by simp) (by simp [go_sem]) ?_
  refine (catch_idle ⟨w.heap.size, 0, none⟩ ⟨w.heap.size + 1, 0, none⟩ _).mono ?_
  rintro e u' w'' ⟨rfl, rfl, rfl⟩
  obtain ⟨F, hF⟩ : ∃ F, F = ((((w1.setCell ⟨w.heap.size, 0, none⟩ (.string f.name)).setCell ⟨w.heap.size, 1, none⟩ (.slice ad f.items.length cap)).setCell ⟨w.heap.size, 0, none⟩ (.string f.name)).setCell ⟨w.heap.size, 1, none⟩ (.slice ad f.items.length cap)).setCell ⟨w.heap.size + 1, 0, none⟩ (.bool true) := ⟨_, rfl⟩
  have hX2 := (HX1.out.set (.string f.name) (.slice ad f.items.length cap)).set (.string f.name) (.slice ad f.items.length cap)
  have hK2 := ((((HK1.out.far (a := ⟨w.heap.size, 0, none⟩) (u := .string f.name) (by simp)).far (a := ⟨w.heap.size, 1, none⟩) (u := .slice ad f.items.length cap) (by simp)).far (a := ⟨w.heap.size, 0, none⟩) (u := .string f.name) (by simp)).far (a := ⟨w.heap.size, 1, none⟩) (u := .slice ad f.items.length cap) (by simp))
  have hB1 := below_grown HBl.out HG.out (by omega)
  have hB : Below w.heap.size w F := by
    rw [hF]
    exact ((((hB1.setCell (p := ⟨w.heap.size, 0, none⟩) (Nat.le_refl _) _).setCell (p := ⟨w.heap.size, 1, none⟩) (Nat.le_refl _) _).setCell (p := ⟨w.heap.size, 0, none⟩) (Nat.le_refl _) _).setCell (p := ⟨w.heap.size, 1, none⟩) (Nat.le_refl _) _).setCell (p := ⟨w.heap.size + 1, 0, none⟩) (Nat.le_succ _) _
  have hI : IRow w.heap.size F (.slice ad f.items.length cap) f.items := by
    rw [hF]
    exact ownsRow_low (ownsRow_put (ownsRow_put (ownsRow_put (ownsRow_put (ownsRow_put HRow.out (by show w.heap.size < _; omega)) (by show w.heap.size < _; omega)) (by show w.heap.size < _; omega)) (by show w.heap.size < _; omega)) (by show w.heap.size + 1 < _; omega)) (by omega)
  have q0 : F.cell? ⟨w.heap.size, 0, none⟩ = some (.string f.name) := by rw [hF]; exact (World.cell?_setCell_other _ _ _ _ (by simp)).trans hX2.c0
  have q1 : F.cell? ⟨w.heap.size, 1, none⟩ = some (.slice ad f.items.length cap) := by rw [hF]; exact (World.cell?_setCell_other _ _ _ _ (by simp)).trans hX2.c1
  have q2 : F.cell? ⟨w.heap.size + 1, 0, none⟩ = some (.bool true) := by rw [hF]; exact World.cell?_setCell_same _ _ _ hK2.c0
  refine ⟨.tuple #[.agg #[.string f.name, .slice ad f.items.length cap], .bool true], ?_, _, rfl, ?_, ?_⟩
  · rw [← hF]
    simp [results, Try.results20, go_sem, q0, q1, q2]
  · rw [← hF]; exact hB
  · rw [← hF]; exact hI

def WEnd (w : World) (r : Option Fc) (e : Ending) (w' : World) : Prop :=
  Below w.heap.size w w' ∧ ((r = none ∧ e = .returned (.tuple #[.agg #[.string ⟨#[]⟩, .slice none 0 0], .bool false])) ∨ ∃ f v, r = some f ∧ e = .returned (.tuple #[.agg #[.string f.name, v], .bool true]) ∧ IRow w.heap.size w' v f.items)
theorem Whole_any (hcl : CloneOk) (l : List UInt8) (w : World) (hl : l.length ≤ 1000000000000000) :
    Calls Try.prog 20 #[.string (strOf l), .func (.func 21) #[] #[]] w fun e w' => WEnd w (wOk l) e w' := by
  unfold wOk
  cases hp : pFace l with
  | none => exact (Whole_none hcl l w hl hp).mono fun e w' q => ⟨q.2, Or.inl ⟨rfl, q.1⟩⟩
  | some q =>
    obtain ⟨f, r⟩ := q
    cases r with
    | nil => exact (Whole_ok hcl l f w hl hp).mono fun e w' ⟨v, q1, q2, q3⟩ => ⟨q2, Or.inr ⟨f, v, rfl, q1, q3⟩⟩
    | cons c r => exact (Whole_left hcl l f c r w hl hp).mono fun e w' q => ⟨q.2, Or.inl ⟨rfl, q.1⟩⟩

end Go.Proofs.Ytidhbgidkgopfaa
