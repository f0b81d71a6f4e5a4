/-
  The program's reading of a whole text: where the reader comes to an end.
-/
import Derived.Test.YtidhbgidkgopfaaFw
namespace Go.Proofs.Ytidhbgidkgopfaa
open Go.RowKit Go.Shelf
set_option maxRecDepth 100000

theorem Bf.set {w : World} {b : Nat} {c0 c1 : Value} (h : Bf w b c0 c1) (u v : Value) : Bf ((w.setCell ⟨b, 0, none⟩ u).setCell ⟨b, 1, none⟩ v) b u v :=
  ⟨by simpa using h.lt, (World.cell?_setCell_other _ _ _ _ (by simp)).trans (World.cell?_setCell_same _ _ _ h.c0), World.cell?_setCell_same _ _ _ ((World.cell?_setCell_other _ _ _ _ (by simp)).trans h.c1), by simpa using h.f0, by simpa using h.f1⟩
theorem B1.far {w : World} {b : Nat} {c : Value} (h : B1 w b c) {a : Addr} {u : Value} (ha : ¬ b = a.block) : B1 (w.setCell a u) b c :=
  h.kept (r := some a.block) ⟨rfl, rfl, rfl, by simp, fun k _ hne => Below.heap_setCell w a u k (fun e => hne (by rw [e]))⟩ (fun e => ha (by cases e; rfl))

set_option maxHeartbeats 1600000 in
theorem Whole_left (hcl : CloneOk) (l : List UInt8) (f : Fc) (c : UInt8) (r : List UInt8) (w : World) (hl : l.length ≤ 1000000000000000) (hp : pFace l = some (f, c :: r)) :
    Calls Try.prog 20 #[.string (strOf l), .func (.func 21) #[] #[]] w fun e w' => e = .returned (.tuple #[.agg #[.string ⟨#[]⟩, .slice none 0 0], .bool false]) ∧ Below w.heap.size w w' := by
  have hmf : ∀ (fn : Fn) (first cap : Array Value) (w : World), (Instr.makeFunc fn first cap).run Try.prog w = .ok (.func fn first cap) w := fun _ _ _ _ => rfl
  obtain ⟨W2, hW2⟩ : ∃ W2, W2 = ((w.alloc (.cells #[.string ⟨#[]⟩, .slice none 0 0] 24)).alloc (.cells #[.bool false] 4)).alloc (.cells #[.string (strOf l)] 64) := ⟨_, rfl⟩
  have hX : Bf W2 w.heap.size (.string ⟨#[]⟩) (.slice none 0 0) := by rw [hW2]; exact ((Bf.new w 24 _ _).alloc _).alloc _
  have hK : B1 W2 (w.heap.size + 1) (.bool false) := by
    rw [hW2]
    have := (B1.new (w.alloc (.cells #[.string ⟨#[]⟩, .slice none 0 0] 24)) 4 (.bool false)).alloc (.cells #[.string (strOf l)] 64)
    simpa using this
  have hRd : Rdr W2 (w.heap.size + 2) l := by
    rw [hW2]
    have := Rdr.new ((w.alloc (.cells #[.string ⟨#[]⟩, .slice none 0 0] 24)).alloc (.cells #[.bool false] 4)) l 64
    simpa using this
  have hBl : Below w.heap.size w W2 := by
    rw [hW2]
    exact (((Below.refl _ _).alloc (Nat.le_refl _) _).alloc (by simp) _).alloc (by simp; omega) _
  have HC : Hid (Calls Try.prog 21 #[.pointer (some ⟨w.heap.size + 2, 0, none⟩)] W2 fun e w' => ∃ ad cap, e = .returned (.agg #[.string f.name, .slice ad f.items.length cap]) ∧ W2.grownBy w' (some (w.heap.size + 2)) ∧ IRow W2.heap.size w' (.slice ad f.items.length cap) f.items ∧ Rdr w' (w.heap.size + 2) (c :: r)) := (face_any hcl _ l W2 hRd hl).mono fun e w' h => h.of_some hp
  have HX := hid hX
  have HK := hid hK
  have HBl := hid hBl
  have HW := hid hW2
  have hE := Lx.ne_empty (strOf (c :: r)) (by rw [strOf_size]; exact Nat.succ_pos _)
  clear hX hK hRd hBl hW2
  go_enter_defers Try.func20, Try.ntmps20
  go_wp2_with (go_at_call 21; rw [← HW.out]; refine HC.out.mono ?_; rintro e w1 ⟨ad, cap, rfl, hg, hrow, hrd⟩; have HG := hid hg; have hX1 := HX.out.kept hg (by simp); have HX1 := hid hX1; have HK1 := hid (HK.out.kept hg (by simp)); obtain ⟨xl, xc0, xc1, xf0, xf1⟩ := hX1; have hr0 := hrd.c0; clear hg hrow hrd)
  exact caught 9 _ w _ _ _ _ (HX1.out.set _ _) ((HK1.out.far (by simp)).far (by simp)) (((below_grown HBl.out HG.out (by omega)).setCell (p := ⟨w.heap.size, 0, none⟩) (Nat.le_refl _) _).setCell (p := ⟨w.heap.size, 1, none⟩) (Nat.le_refl _) _) _ rfl rfl (fun W' h => ⟨rfl, h⟩)

end Go.Proofs.Ytidhbgidkgopfaa
