/-
  The program's reading of a whole text.
-/
import Derived.Test.YtidhbgidkgopfaaFv
namespace Go.Proofs.Ytidhbgidkgopfaa
open Go.RowKit Go.Shelf
set_option maxRecDepth 100000

def wOk (l : List UInt8) : Option Fc := match pFace l with
  | some (f, []) => some f
  | _ => none
theorem FEnd.of_none {B rb : Nat} {w w' : World} {r : Option (Fc × List UInt8)} {e : Ending} (h : FEnd B rb w r e w') (hr : r = none) : e = .panicked shortP ∧ w.grownBy w' (some rb) := by
  obtain ⟨hg, ⟨_, he⟩ | ⟨x, l', v, hr', _⟩⟩ := h
  · exact ⟨he, hg⟩
  · rw [hr] at hr'; cases hr'
theorem FEnd.of_some {B rb : Nat} {w w' : World} {r : Option (Fc × List UInt8)} {e : Ending} {f : Fc} {l : List UInt8} (h : FEnd B rb w r e w') (hr : r = some (f, l)) : ∃ ad cap, e = .returned (.agg #[.string f.name, .slice ad f.items.length cap]) ∧ w.grownBy w' (some rb) ∧ IRow B w' (.slice ad f.items.length cap) f.items ∧ Rdr w' rb l := by
  obtain ⟨hg, ⟨hr', _⟩ | ⟨x', l', v, hr', he, h1, h2⟩⟩ := h
  · rw [hr] at hr'; cases hr'
  · rw [hr] at hr'; cases hr'
    obtain ⟨ad, cap, rfl⟩ := h1.slice
    exact ⟨ad, cap, he, hg, h1, h2⟩
theorem Rdr.new (w : World) (l : List UInt8) (t : TypeId) : Rdr (w.alloc (.cells #[.string (strOf l)] t)) w.heap.size l := by
  constructor <;> simp
/- a block of one cell -/
structure B1 (w : World) (b : Nat) (c : Value) : Prop where
  lt : b < w.heap.size
  c0 : w.cell? ⟨b, 0, none⟩ = some c
  f0 : w.frozen? ⟨b, 0, none⟩ = false
theorem B1.kept {w w' : World} {b : Nat} {c : Value} {r : Option Nat} (h : B1 w b c) (hg : w.grownBy w' r) (hr : some b ≠ r) : B1 w' b c :=
  have hb := hg.block b h.lt hr
  ⟨Nat.lt_of_lt_of_le h.lt hg.size, (World.cell?_of_block (a := ⟨b, 0, none⟩) hb).trans h.c0, (World.frozen?_of_block (a := ⟨b, 0, none⟩) hb).trans h.f0⟩
theorem B1.alloc {w : World} {b : Nat} {c : Value} (h : B1 w b c) (o : Obj) : B1 (w.alloc o) b c := h.kept (grown_alloc (grown_refl w none) o) (by simp)
theorem B1.new (w : World) (t : TypeId) (c : Value) : B1 (w.alloc (.cells #[c] t)) w.heap.size c := by
  constructor <;> simp
theorem below_grown {w X w' : World} {rb : Nat} (h : Below w.heap.size w X) (hg : X.grownBy w' (some rb)) (hr : w.heap.size ≤ rb) : Below w.heap.size w w' := h.grown hg h.size (fun k e => by cases e; exact hr)

/- what is left behind a panic: the deferred call recovers it -/
theorem caught (u : TypeId) (pv : Value) (w W : World) (x0 x1 : Value) (y : Bool) (hX : Bf W w.heap.size x0 x1) (hK : B1 W (w.heap.size + 1) (.bool y)) (hB : Below w.heap.size w W) {R : Ending → World → Prop} (t : Array Value)
    (h4 : t.getD 4 undef = .pointer (some ⟨w.heap.size, 0, none⟩)) (h5 : t.getD 5 undef = .pointer (some ⟨w.heap.size + 1, 0, none⟩))
    (hR : ∀ W', Below w.heap.size w W' → R (.returned (.tuple #[.agg #[.string ⟨#[]⟩, .slice none 0 0], .bool false])) W') :
    Leaves Try.prog Try.f20 t R [{ target := Target.fn (Fn.func 36) #[Value.pointer (some ⟨w.heap.size, 0, none⟩), Value.pointer (some ⟨w.heap.size + 1, 0, none⟩)], args := #[] }] (.panicking [{ v := .iface u pv, recovered := false }]) W := by
  refine leaves_cons (f := 36) (args := #[.pointer (some ⟨w.heap.size, 0, none⟩), .pointer (some ⟨w.heap.size + 1, 0, none⟩)]) (by simp) (by simp [go_sem]) ?_
  refine (catch_thrown w.heap.size x0 x1 y u pv W hX hK.c0 hK.f0 hK.lt).mono ?_
  rintro e u' w'' ⟨rfl, rfl, rfl⟩
  have hX1 := hX.alloc (.cells #[.string ⟨#[]⟩, .slice none 0 0] 24)
  have hK1 := hK.alloc (.cells #[.string ⟨#[]⟩, .slice none 0 0] 24)
  have c0 : (noneF W w.heap.size).cell? ⟨w.heap.size, 0, none⟩ = some (.string ⟨#[]⟩) :=
    (World.cell?_setCell_other _ _ _ _ (by simp)).trans ((World.cell?_setCell_other _ _ _ _ (by simp)).trans (World.cell?_setCell_same _ _ _ hX1.c0))
  have c1 : (noneF W w.heap.size).cell? ⟨w.heap.size, 1, none⟩ = some (.slice none 0 0) :=
    (World.cell?_setCell_other _ _ _ _ (by simp)).trans (World.cell?_setCell_same _ _ _ ((World.cell?_setCell_other _ _ _ _ (by simp)).trans hX1.c1))
  have c2 : (noneF W w.heap.size).cell? ⟨w.heap.size + 1, 0, none⟩ = some (.bool false) :=
    World.cell?_setCell_same _ _ _ ((World.cell?_setCell_other _ _ _ _ (by simp)).trans ((World.cell?_setCell_other _ _ _ _ (by simp)).trans hK1.c0))
  have hb : Below w.heap.size w (noneF W w.heap.size) :=
    (((hB.alloc hB.size _).setCell (p := ⟨w.heap.size, 0, none⟩) (Nat.le_refl _) _).setCell (p := ⟨w.heap.size, 1, none⟩) (Nat.le_refl _) _).setCell (p := ⟨w.heap.size + 1, 0, none⟩) (Nat.le_succ _) _
  generalize noneF W w.heap.size = X at *
  have h4' : t[4]?.getD undef = .pointer (some ⟨w.heap.size, 0, none⟩) := by simpa using h4
  have h5' : t[5]?.getD undef = .pointer (some ⟨w.heap.size + 1, 0, none⟩) := by simpa using h5
  refine ⟨.tuple #[.agg #[.string ⟨#[]⟩, .slice none 0 0], .bool false], ?_, hR X hb⟩
  simp [results, Try.results20, go_sem, h4', h5', c0, c1, c2]

set_option maxHeartbeats 1600000 in
theorem Whole_none (hcl : CloneOk) (l : List UInt8) (w : World) (hl : l.length ≤ 1000000000000000) (hp : pFace l = none) :
    Calls Try.prog 20 #[.string (strOf l), .func (.func 21) #[] #[]] w fun e w' => e = .returned (.tuple #[.agg #[.string ⟨#[]⟩, .slice none 0 0], .bool false]) ∧ Below w.heap.size w w' := by
  have hmf : ∀ (fn : Fn) (first cap : Array Value) (w : World), (Instr.makeFunc fn first cap).run Try.prog w = .ok (.func fn first cap) w := fun _ _ _ _ => rfl
  obtain ⟨W2, hW2⟩ : ∃ W2, W2 = ((w.alloc (.cells #[.string ⟨#[]⟩, .slice none 0 0] 24)).alloc (.cells #[.bool false] 4)).alloc (.cells #[.string (strOf l)] 64) := ⟨_, rfl⟩
  have hX : Bf W2 w.heap.size (.string ⟨#[]⟩) (.slice none 0 0) := by rw [hW2]; exact ((Bf.new w 24 _ _).alloc _).alloc _
  have hK : B1 W2 (w.heap.size + 1) (.bool false) := by
    rw [hW2]
    have := (B1.new (w.alloc (.cells #[.string ⟨#[]⟩, .slice none 0 0] 24)) 4 (.bool false)).alloc (.cells #[.string (strOf l)] 64)
    simpa using this
  have hRd : Rdr W2 (w.heap.size + 2) l := by
    rw [hW2]
    have := Rdr.new ((w.alloc (.cells #[.string ⟨#[]⟩, .slice none 0 0] 24)).alloc (.cells #[.bool false] 4)) l 64
    simpa using this
  have hBl : Below w.heap.size w W2 := by
    rw [hW2]
    exact (((Below.refl _ _).alloc (Nat.le_refl _) _).alloc (by simp) _).alloc (by simp; omega) _
  have HC : Hid (Calls Try.prog 21 #[.pointer (some ⟨w.heap.size + 2, 0, none⟩)] W2 fun e w' => e = .panicked shortP ∧ W2.grownBy w' (some (w.heap.size + 2))) := (face_any hcl _ l W2 hRd hl).mono fun e w' h => h.of_none hp
  have HX := hid hX
  have HK := hid hK
  have HBl := hid hBl
  have HW := hid hW2
  clear hX hK hRd hBl hW2
  go_enter_defers Try.func20, Try.ntmps20
  go_wp2_with (go_at_call 21; rw [← HW.out]; refine HC.out.mono ?_; rintro e w1 ⟨rfl, hg⟩; have HG := hid hg; clear hg)
  exact caught 9 _ w w1 _ _ _ (HX.out.kept HG.out (by simp)) (HK.out.kept HG.out (by simp)) (below_grown HBl.out HG.out (by omega)) _ rfl rfl (fun W' h => ⟨rfl, h⟩)

end Go.Proofs.Ytidhbgidkgopfaa
