/-
  Rows of instructions and of marks in memory; the smallest functions of the peephole.
-/
import Derived.Test.YtpahhhhfhnpmjaaRef
import Derived.Test.YtpahhhhfhnpmjaaSame
import Derived.Test.YtpahhhhfhnpmjaaPb
import Derived.Laws.IdiomCopy
namespace Go.Proofs.Ytpahhhhfhnpmjaa
open Go.RowKit Go.Shelf
set_option maxRecDepth 100000

theorem grown_alloc {w w' : World} {r : Option Nat} (h : w.grownBy w' r) (o : Obj) : w.grownBy (w'.alloc o) r :=
  ⟨h.os, h.tape, h.output, Nat.le_trans h.size (by simp), fun k hk hne => (Below.heap_alloc w' o k (Nat.lt_of_lt_of_le hk h.size)).trans (h.block k hk hne)⟩
theorem grown_drew {w w' : World} {r : Option Nat} (h : w.grownBy w' r) : w.grownBy w'.drew r := ⟨h.os, h.tape, h.output, h.size, h.block⟩
theorem grown_set {w w' : World} {b : Nat} {a : Addr} {u : Value} (h : w.grownBy w' (some b)) (ha : a.block = b) : w.grownBy (w'.setCell a u) (some b) :=
  ⟨h.os, h.tape, h.output, by simpa using h.size, fun k hk hne => (Below.heap_setCell w' a u k (fun e => hne (by rw [e, ha]))).trans (h.block k hk hne)⟩
theorem grown_put {w w' : World} {r : Option Nat} (h : w.grownBy w' r) {a : Addr} {u : Value} (ha : w.heap.size ≤ a.block) : w.grownBy (w'.setCell a u) r :=
  ⟨h.os, h.tape, h.output, by simpa using h.size, fun k hk hne => (Below.heap_setCell w' a u k (by omega)).trans (h.block k hk hne)⟩
theorem grown_trans {a b c : World} {r : Option Nat} (h1 : a.grownBy b r) (h2 : b.grownBy c r) : a.grownBy c r :=
  ⟨h2.os.trans h1.os, h2.tape.trans h1.tape, h2.output.trans h1.output, Nat.le_trans h1.size h2.size, fun k hk hne => (h2.block k (Nat.lt_of_lt_of_le hk h1.size) hne).trans (h1.block k hk hne)⟩
theorem grown_below {w w' : World} (r : Option Nat) (h : Below w.heap.size w w') : w.grownBy w' r := ⟨h.os, h.tape, h.output, h.size, fun k hk _ => h.block k hk⟩
theorem below_grew {B : Nat} {a b c : World} {r : Option Nat} (h : Below B a b) (hg : b.grownBy c r) (hB : B ≤ b.heap.size) (hr : ∀ k, r = some k → B ≤ k) : Below B a c :=
  ⟨hg.os.trans h.os, hg.tape.trans h.tape, hg.output.trans h.output, Nat.le_trans h.size hg.size, fun k hk => (hg.block k (Nat.lt_of_lt_of_le hk hB) (fun e => by have := hr k e.symm; omega)).trans (h.block k hk)⟩
theorem put_grown (w : World) (a : Addr) (u : Value) : w.grownBy (w.setCell a u) (some a.block) := grown_set (grown_refl w _) rfl

/- a row of marks -/
structure BRow (w : World) (g : Nat) (l : List Bool) : Prop where
  lt : g < w.heap.size
  cell : ∀ i, i < l.length → w.cell? ⟨g, i, none⟩ = some (.bool (l.getD i true))
  fz : ∀ i, i < l.length → w.frozen? ⟨g, i, none⟩ = false
theorem BRow.kept {w w' : World} {g : Nat} {l : List Bool} {r : Option Nat} (h : BRow w g l) (hg : w.grownBy w' r) (hr : some g ≠ r) : BRow w' g l :=
  have hb := hg.block g h.lt hr
  ⟨Nat.lt_of_lt_of_le h.lt hg.size, fun i hi => (World.cell?_of_block (a := ⟨g, i, none⟩) hb).trans (h.cell i hi), fun i hi => (World.frozen?_of_block (a := ⟨g, i, none⟩) hb).trans (h.fz i hi)⟩
theorem BRow.set {w : World} {g : Nat} {l : List Bool} (h : BRow w g l) (j : Nat) (hj : j < l.length) (b : Bool) : BRow (w.setCell ⟨g, j, none⟩ (.bool b)) g (l.set j b) := by
  refine ⟨by simpa using h.lt, fun i hi => ?_, fun i hi => ?_⟩
  · rw [List.length_set] at hi
    rw [List.getD_eq_getElem?_getD, List.getElem?_set]
    by_cases e : j = i
    · subst e
      rw [if_pos rfl, if_pos hj]
      exact World.cell?_setCell_same _ _ _ (h.cell j hj)
    · rw [if_neg e, ← List.getD_eq_getElem?_getD]
      exact (World.cell?_setCell_other _ _ _ _ (by simp <;> omega)).trans (h.cell i hi)
  · rw [List.length_set] at hi
    simpa using h.fz i hi
theorem BRow.setM {w : World} {g : Nat} {l : List Bool} (h : BRow w g l) (j : Nat) (hj : j < l.length) : BRow (w.setCell ⟨g, j, none⟩ (.bool true)) g (Mc.setM l j) := by
  unfold Mc.setM
  rw [if_pos (by omega)]
  exact h.set j hj true

/- a row of instructions -/
structure CRow (w : World) (g : Nat) (c : List Mc.Ins) : Prop where
  lt : g < w.heap.size
  op : ∀ i, i < c.length → w.cell? ⟨g, i * 3, none⟩ = some (.int .i64 (c.getD i Mc.dI).op)
  a : ∀ i, i < c.length → w.cell? ⟨g, i * 3 + 1, none⟩ = some (.int .i64 (c.getD i Mc.dI).a)
  b : ∀ i, i < c.length → w.cell? ⟨g, i * 3 + 2, none⟩ = some (.int .i64 (c.getD i Mc.dI).b)
  fz : ∀ j, j < c.length * 3 → w.frozen? ⟨g, j, none⟩ = false
theorem CRow.kept {w w' : World} {g : Nat} {c : List Mc.Ins} {r : Option Nat} (h : CRow w g c) (hg : w.grownBy w' r) (hr : some g ≠ r) : CRow w' g c :=
  have hb := hg.block g h.lt hr
  ⟨Nat.lt_of_lt_of_le h.lt hg.size, fun i hi => (World.cell?_of_block (a := ⟨g, i * 3, none⟩) hb).trans (h.op i hi), fun i hi => (World.cell?_of_block (a := ⟨g, i * 3 + 1, none⟩) hb).trans (h.a i hi), fun i hi => (World.cell?_of_block (a := ⟨g, i * 3 + 2, none⟩) hb).trans (h.b i hi), fun i hi => (World.frozen?_of_block (a := ⟨g, i, none⟩) hb).trans (h.fz i hi)⟩
theorem CRow.setA {w : World} {g : Nat} {c : List Mc.Ins} (h : CRow w g c) (j : Nat) (hj : j < c.length) (n : Int) : CRow (w.setCell ⟨g, j * 3 + 1, none⟩ (.int .i64 n)) g (c.set j ⟨(c.getD j Mc.dI).op, n, (c.getD j Mc.dI).b⟩) := by
  refine ⟨by simpa using h.lt, fun i hi => ?_, fun i hi => ?_, fun i hi => ?_, fun i hi => ?_⟩
  all_goals rw [List.length_set] at hi
  · rw [Mc.getD_set]
    refine (World.cell?_setCell_other _ _ _ _ (by simp <;> omega)).trans ?_
    rw [h.op i hi]
    split
    · rename_i e; rw [e.1]
    · rfl
  · rw [Mc.getD_set]
    by_cases e : j = i
    · subst e
      rw [if_pos ⟨rfl, hj⟩]
      exact World.cell?_setCell_same _ _ _ (h.a j hj)
    · rw [if_neg (by omega)]
      exact (World.cell?_setCell_other _ _ _ _ (by simp <;> omega)).trans (h.a i hi)
  · rw [Mc.getD_set]
    refine (World.cell?_setCell_other _ _ _ _ (by simp <;> omega)).trans ?_
    rw [h.b i hi]
    split
    · rename_i e; rw [e.1]
    · rfl
  · simpa using h.fz i hi
def put3 (w : World) (g j : Nat) (y : Mc.Ins) : World := ((w.setCell ⟨g, j * 3, none⟩ (.int .i64 y.op)).setCell ⟨g, j * 3 + 1, none⟩ (.int .i64 y.a)).setCell ⟨g, j * 3 + 2, none⟩ (.int .i64 y.b)
theorem put3_grown (w : World) (g j : Nat) (y : Mc.Ins) : w.grownBy (put3 w g j y) (some g) := grown_set (grown_set (grown_set (grown_refl _ _) rfl) rfl) rfl
theorem CRow.put3 {w : World} {g : Nat} {c : List Mc.Ins} (h : CRow w g c) (j : Nat) (hj : j < c.length) (y : Mc.Ins) : CRow (put3 w g j y) g (c.set j y) := by
  unfold Ytpahhhhfhnpmjaa.put3
  refine ⟨by simpa using h.lt, fun i hi => ?_, fun i hi => ?_, fun i hi => ?_, fun i hi => ?_⟩
  all_goals rw [List.length_set] at hi
  · rw [Mc.getD_set, World.cell?_setCell_other _ _ _ _ (by simp <;> omega), World.cell?_setCell_other _ _ _ _ (by simp <;> omega)]
    by_cases e : j = i
    · subst e
      rw [if_pos ⟨rfl, hj⟩]
      exact World.cell?_setCell_same _ _ _ (h.op j hj)
    · rw [if_neg (by omega)]
      exact (World.cell?_setCell_other _ _ _ _ (by simp <;> omega)).trans (h.op i hi)
  · rw [Mc.getD_set, World.cell?_setCell_other _ _ _ _ (by simp <;> omega)]
    by_cases e : j = i
    · subst e
      rw [if_pos ⟨rfl, hj⟩]
      exact World.cell?_setCell_same _ _ _ ((World.cell?_setCell_other _ _ _ _ (by simp)).trans (h.a j hj))
    · rw [if_neg (by omega)]
      exact (World.cell?_setCell_other _ _ _ _ (by simp <;> omega)).trans ((World.cell?_setCell_other _ _ _ _ (by simp <;> omega)).trans (h.a i hi))
  · rw [Mc.getD_set]
    by_cases e : j = i
    · subst e
      rw [if_pos ⟨rfl, hj⟩]
      exact World.cell?_setCell_same _ _ _ ((World.cell?_setCell_other _ _ _ _ (by simp)).trans ((World.cell?_setCell_other _ _ _ _ (by simp)).trans (h.b j hj)))
    · rw [if_neg (by omega)]
      exact (World.cell?_setCell_other _ _ _ _ (by simp <;> omega)).trans ((World.cell?_setCell_other _ _ _ _ (by simp <;> omega)).trans ((World.cell?_setCell_other _ _ _ _ (by simp <;> omega)).trans (h.b i hi)))
  · simpa using h.fz i hi
/- an image's code, by getD -/
theorem ImgAt.get {w : World} {a : Option Addr} {code : List Mc.Ins} (h : ImgAt w a code) (hc : 0 < code.length) : ∃ b off, a = some ⟨b, off, none⟩ ∧ b < w.heap.size ∧ ∀ k, k < code.length →
    w.cell? ⟨b, off + k * 3, none⟩ = some (.int .i64 (code.getD k Mc.dI).op) ∧ w.cell? ⟨b, off + k * 3 + 1, none⟩ = some (.int .i64 (code.getD k Mc.dI).a) ∧ w.cell? ⟨b, off + k * 3 + 2, none⟩ = some (.int .i64 (code.getD k Mc.dI).b) := by
  rcases h with h | ⟨b, off, e, hl, h⟩
  · subst h; simp at hc
  · refine ⟨b, off, e, hl, fun k hk => ?_⟩
    rw [List.getD_eq_getElem?_getD, List.getElem?_eq_getElem hk]
    exact h k hk
theorem CRow.img {w : World} {g : Nat} {c : List Mc.Ins} (h : CRow w g c) : ImgAt w (some ⟨g, 0, none⟩) c :=
  Or.inr ⟨g, 0, rfl, h.lt, fun i hi => by
    have e : c.getD i Mc.dI = c[i] := by rw [List.getD_eq_getElem?_getD, List.getElem?_eq_getElem hi]; rfl
    rw [Nat.zero_add, ← e]
    exact ⟨h.op i hi, h.a i hi, h.b i hi⟩⟩

theorem nop_any (w : World) : Calls Try.prog 36 #[] w fun e w' => e = .returned (.agg #[.int .i64 21, .int .i64 0, .int .i64 0]) ∧ Below w.heap.size w w' := by
  go_enter Try.func36, Try.ntmps36
  go_wp2_with fail
  exact bodyPost_ret (v := .agg #[.int .i64 21, .int .i64 0, .int .i64 0]) (by simp [results, Try.results36, go_sem]) rfl ⟨rfl, (Below.refl _ _).alloc (Nat.le_refl _) _⟩
theorem push_any' (n : Int) (w : World) : Calls Try.prog 37 #[.int .i64 n] w fun e w' => e = .returned (.agg #[.int .i64 1, .int .i64 n, .int .i64 0]) ∧ Below w.heap.size w w' := by
  go_enter Try.func37, Try.ntmps37
  go_wp2_with fail
  exact bodyPost_ret (v := .agg #[.int .i64 1, .int .i64 n, .int .i64 0]) (by simp [results, Try.results37, go_sem]) rfl ⟨rfl, (Below.refl _ _).alloc (Nat.le_refl _) _⟩
theorem decided_any (n to : Int) (w : World) : Calls Try.prog 38 #[.int .i64 n, .int .i64 to] w fun e w' => e = .returned (.agg #[.int .i64 (Mc.decI n to).op, .int .i64 (Mc.decI n to).a, .int .i64 (Mc.decI n to).b]) ∧ Below w.heap.size w w' := by
  have HN : Hid (∀ W, Calls Try.prog 36 #[] W fun e w' => e = .returned (.agg #[.int .i64 21, .int .i64 0, .int .i64 0]) ∧ Below W.heap.size W w') := nop_any
  by_cases h : n = 0
  · have e : Mc.decI n to = Mc.jmpI to := if_pos h
    rw [e]
    subst h
    clear e
    go_enter Try.func38, Try.ntmps38
    go_wp2_with fail
    exact bodyPost_ret (v := .agg #[.int .i64 11, .int .i64 to, .int .i64 0]) (by simp [results, Try.results38, go_sem]) rfl ⟨rfl, (Below.refl _ _).alloc (Nat.le_refl _) _⟩
  · have e : Mc.decI n to = Mc.nopI := if_neg h
    rw [e]
    have h' : (n == 0) = false := beq_eq_false_iff_ne.2 h
    clear e h
    go_enter Try.func38, Try.ntmps38
    go_wp2_with fail
    refine (HN.out _).mono ?_
    rintro e w1 ⟨rfl, hb⟩
    have hb' : Below w.heap.size w w1 := ((Below.refl _ _).alloc (Nat.le_refl _) _).trans (hb.mono (by simp))
    have x0 := (hb.cell (p := ⟨w.heap.size, 0, none⟩) (by simp)).trans (show _ = some (.int .i64 0) by simp)
    have x1 := (hb.cell (p := ⟨w.heap.size, 1, none⟩) (by simp)).trans (show _ = some (.int .i64 0) by simp)
    have x2 := (hb.cell (p := ⟨w.heap.size, 2, none⟩) (by simp)).trans (show _ = some (.int .i64 0) by simp)
    have f0 := (hb.frozen (p := ⟨w.heap.size, 0, none⟩) (by simp)).trans (show _ = false by simp)
    have f1 := (hb.frozen (p := ⟨w.heap.size, 1, none⟩) (by simp)).trans (show _ = false by simp)
    have f2 := (hb.frozen (p := ⟨w.heap.size, 2, none⟩) (by simp)).trans (show _ = false by simp)
    have HB := hid hb'
    clear hb hb'
    go_wp2_with fail
    exact bodyPost_ret (v := .agg #[.int .i64 21, .int .i64 0, .int .i64 0]) (by simp [results, Try.results38, go_sem, x0, x1, x2]) rfl ⟨rfl, ((HB.out.setCell (p := ⟨w.heap.size, 0, none⟩) (Nat.le_refl _) _).setCell (p := ⟨w.heap.size, 1, none⟩) (Nat.le_refl _) _).setCell (p := ⟨w.heap.size, 2, none⟩) (Nat.le_refl _) _⟩

end Go.Proofs.Ytpahhhhfhnpmjaa
