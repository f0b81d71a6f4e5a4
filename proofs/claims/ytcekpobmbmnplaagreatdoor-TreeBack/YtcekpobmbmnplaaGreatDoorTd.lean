/-
  Modules without the program: what lies in memory as a tree of numbers, texts, bools and lists; and how memory may change around it.
-/
import Derived.Test.YtcekpobmbmnplaaGreatDoorNum
import Derived.Deep.AppendLies
namespace Go.Proofs.YtcekpobmbmnplaaGreatDoor
open Go.RowKit

/- What lies in memory: a list says how many elements it has, and has the cells of all of them one behind the other. -/
inductive D where
  | int (n : Int)
  | str (s : ByteArray)
  | bool (b : Bool)
  | list (n : Nat) (ds : List D)

/- Cells from a place on. -/
def CellsIn (w : World) (b off : Nat) (l : List Value) : Prop := ∀ j u, l[j]? = some u → w.cell? ⟨b, off + j, none⟩ = some u

mutual
def DVal (w : World) (A : Nat → Prop) : D → Value → Prop
  | .int n, v => v = .int .i64 n ∧ (Lit.int .i64 n).wf = true
  | .str s, v => v = .string s ∧ s.size ≤ maxLen
  | .bool b, v => v = .bool b
  | .list n ds, v => ∃ a cap, v = .slice a n cap ∧ n ≤ ds.length ∧ ds.length ≤ 17592186044416 ∧ (n = 0 ∨ ∃ b off cs, a = some ⟨b, off, none⟩ ∧ A b ∧ b < w.heap.size ∧ CellsIn w b off cs ∧ DVals w A ds cs)
def DVals (w : World) (A : Nat → Prop) : List D → List Value → Prop
  | [], cs => cs = []
  | d :: ds, cs => ∃ v r, cs = v :: r ∧ DVal w A d v ∧ DVals w A ds r
end

/- Memory from lo on stays. -/
def Stays (lo : Nat) (w w' : World) : Prop := w.heap.size ≤ w'.heap.size ∧ ∀ k, lo ≤ k → k < w.heap.size → w'.heap[k]? = w.heap[k]?
theorem Stays.refl (lo : Nat) (w : World) : Stays lo w w := ⟨Nat.le_refl _, fun _ _ _ => rfl⟩
theorem Stays.trans {lo : Nat} {a b c : World} (h : Stays lo a b) (k : Stays lo b c) : Stays lo a c :=
  ⟨Nat.le_trans h.1 k.1, fun i h1 h2 => (k.2 i h1 (Nat.lt_of_lt_of_le h2 h.1)).trans (h.2 i h1 h2)⟩
theorem Stays.mono {lo lo' : Nat} {w w' : World} (h : Stays lo w w') (hl : lo ≤ lo') : Stays lo' w w' := ⟨h.1, fun k h1 h2 => h.2 k (Nat.le_trans hl h1) h2⟩
theorem Stays.of_below {w w' : World} (h : Below w.heap.size w w') (lo : Nat) : Stays lo w w' := ⟨h.size, fun k _ h2 => h.block k h2⟩
theorem Stays.cell {lo : Nat} {w w' : World} (h : Stays lo w w') {b off : Nat} (h1 : lo ≤ b) (h2 : b < w.heap.size) : w'.cell? ⟨b, off, none⟩ = w.cell? ⟨b, off, none⟩ :=
  World.cell?_of_block (w := w) (h.2 b h1 h2)
theorem Stays.alloc {lo : Nat} {w w' : World} (h : Stays lo w w') (o : Obj) : Stays lo w (w'.alloc o) :=
  h.trans (Stays.of_below ((Below.refl w'.heap.size w').alloc (Nat.le_refl _) o) lo)
/- What was allowed, and was there, is as it was and allowed. -/
def Moves (w : World) (A : Nat → Prop) (w' : World) (A' : Nat → Prop) : Prop := w.heap.size ≤ w'.heap.size ∧ ∀ b, b < w.heap.size → A b → A' b ∧ w'.heap[b]? = w.heap[b]?
theorem Moves.refl (w : World) (A : Nat → Prop) : Moves w A w A := ⟨Nat.le_refl _, fun _ _ h => ⟨h, rfl⟩⟩
theorem Moves.trans {w1 w2 w3 : World} {A1 A2 A3 : Nat → Prop} (h : Moves w1 A1 w2 A2) (k : Moves w2 A2 w3 A3) : Moves w1 A1 w3 A3 :=
  ⟨Nat.le_trans h.1 k.1, fun b hb ha => ⟨(k.2 b (Nat.lt_of_lt_of_le hb h.1) (h.2 b hb ha).1).1, (k.2 b (Nat.lt_of_lt_of_le hb h.1) (h.2 b hb ha).1).2.trans (h.2 b hb ha).2⟩⟩
theorem Moves.of_below {w w' : World} (h : Below w.heap.size w w') (A : Nat → Prop) : Moves w A w' A := ⟨h.size, fun b hb ha => ⟨ha, h.block b hb⟩⟩
theorem Moves.alloc {w w' : World} {A A' : Nat → Prop} (h : Moves w A w' A') (o : Obj) : Moves w A (w'.alloc o) A' := h.trans (Moves.of_below ((Below.refl w'.heap.size w').alloc (Nat.le_refl _) o) A')
theorem Moves.lower {w : World} {lo lo' : Nat} (h : lo' ≤ lo) : Moves w (lo ≤ ·) w (lo' ≤ ·) := ⟨Nat.le_refl _, fun _ _ ha => ⟨Nat.le_trans h ha, rfl⟩⟩
theorem CellsIn.moves {A A' : Nat → Prop} {w w' : World} {b off : Nat} {l : List Value} (h : CellsIn w b off l) (hs : Moves w A w' A') (h1 : A b) (h2 : b < w.heap.size) : CellsIn w' b off l :=
  fun j u hj => (World.cell?_of_block (w := w) (hs.2 b h2 h1).2).trans (h j u hj)

mutual
theorem DVal.moves {A A' : Nat → Prop} {w w' : World} (hs : Moves w A w' A') : ∀ (d : D) (v : Value), DVal w A d v → DVal w' A' d v
  | .int _, _, h => h
  | .str _, _, h => h
  | .bool _, _, h => h
  | .list n ds, v, h => by
    unfold DVal at h ⊢
    obtain ⟨a, cap, h1, h2, h3, h4⟩ := h
    refine ⟨a, cap, h1, h2, h3, ?_⟩
    rcases h4 with h4 | ⟨b, off, cs, ha, hl, hb, hc, hx⟩
    · exact Or.inl h4
    · exact Or.inr ⟨b, off, cs, ha, (hs.2 b hb hl).1, Nat.lt_of_lt_of_le hb hs.1, hc.moves hs hl hb, DVals.moves hs ds cs hx⟩
theorem DVals.moves {A A' : Nat → Prop} {w w' : World} (hs : Moves w A w' A') : ∀ (l : List D) (cs : List Value), DVals w A l cs → DVals w' A' l cs
  | [], _, h => h
  | d :: ds, cs, h => by
    unfold DVals at h ⊢
    obtain ⟨v, r, h1, h2, h3⟩ := h
    exact ⟨v, r, h1, DVal.moves hs d v h2, DVals.moves hs ds r h3⟩
end
theorem DVal.one {w : World} {lo : Nat → Prop} : ∀ {d : D} {v : Value}, DVal w lo d v → v.oneCell' = true
  | .int _, _, h => by unfold DVal at h; rw [h.1]; rfl
  | .str _, _, h => by unfold DVal at h; rw [h.1]; rfl
  | .bool _, _, h => by unfold DVal at h; rw [h]; rfl
  | .list _ _, _, h => by unfold DVal at h; obtain ⟨a, cap, h, _⟩ := h; rw [h]; rfl
theorem DVals.one {w : World} {lo : Nat → Prop} : ∀ {l : List D} {cs : List Value}, DVals w lo l cs → ∀ u ∈ cs, u.oneCell' = true
  | [], _, h => by unfold DVals at h; rw [h]; intro u hu; cases hu
  | d :: ds, cs, h => by
    unfold DVals at h
    obtain ⟨v, r, rfl, h2, h3⟩ := h
    intro u hu
    rcases List.mem_cons.1 hu with rfl | hu
    · exact h2.one
    · exact DVals.one h3 u hu
theorem DVals.len {w : World} {lo : Nat → Prop} : ∀ {l : List D} {cs : List Value}, DVals w lo l cs → cs.length = l.length
  | [], _, h => by unfold DVals at h; rw [h]; rfl
  | d :: ds, cs, h => by
    unfold DVals at h
    obtain ⟨v, r, rfl, h2, h3⟩ := h
    simp [DVals.len h3]
theorem DVals.nil {w : World} {lo : Nat → Prop} : DVals w lo [] [] := by unfold DVals; rfl
theorem DVals.cons {w : World} {lo : Nat → Prop} {d : D} {ds : List D} {v : Value} {cs : List Value} (h : DVal w lo d v) (k : DVals w lo ds cs) : DVals w lo (d :: ds) (v :: cs) := by
  unfold DVals; exact ⟨v, cs, rfl, h, k⟩
theorem DVals.append {w : World} {lo : Nat → Prop} : ∀ {l m : List D} {cs es : List Value}, DVals w lo l cs → DVals w lo m es → DVals w lo (l ++ m) (cs ++ es)
  | [], m, cs, es, h, k => by unfold DVals at h; subst h; exact k
  | d :: ds, m, cs, es, h, k => by
    unfold DVals at h
    obtain ⟨v, r, rfl, h2, h3⟩ := h
    exact DVals.cons h2 (DVals.append h3 k)
theorem DVals.get {w : World} {lo : Nat → Prop} : ∀ {l : List D} {cs : List Value}, DVals w lo l cs → ∀ (j : Nat) (d : D), l[j]? = some d → ∃ v, cs[j]? = some v ∧ DVal w lo d v
  | [], _, _, j, d, hj => by simp at hj
  | e :: ds, cs, h, j, d, hj => by
    unfold DVals at h
    obtain ⟨v, r, rfl, h2, h3⟩ := h
    cases j with
    | zero => simp at hj; subst hj; exact ⟨v, rfl, h2⟩
    | succ j => simpa using DVals.get h3 j d (by simpa using hj)
theorem dint {w : World} {lo : Nat → Prop} {n : Int} (h : (Lit.int .i64 n).wf = true) : DVal w lo (.int n) (.int .i64 n) := by unfold DVal; exact ⟨rfl, h⟩
theorem dstr {w : World} {lo : Nat → Prop} {s : ByteArray} (h : s.size ≤ maxLen) : DVal w lo (.str s) (.string s) := by unfold DVal; exact ⟨rfl, h⟩
theorem dbool {w : World} {lo : Nat → Prop} {b : Bool} : DVal w lo (.bool b) (.bool b) := by unfold DVal; rfl
theorem dnil {w : World} {lo : Nat → Prop} {a : Option Addr} {cap : Nat} : DVal w lo (.list 0 []) (.slice a 0 cap) := by unfold DVal; exact ⟨a, cap, rfl, Nat.le_refl _, by simp, Or.inl rfl⟩
theorem dlist {w : World} {lo : Nat → Prop} {n b off cap : Nat} {ds : List D} {cs : List Value} (h1 : n ≤ ds.length) (h2 : ds.length ≤ 17592186044416) (hl : lo b) (hb : b < w.heap.size) (hc : CellsIn w b off cs) (hx : DVals w lo ds cs) : DVal w lo (.list n ds) (.slice (some ⟨b, off, none⟩) n cap) := by
  unfold DVal; exact ⟨_, cap, rfl, h1, h2, Or.inr ⟨b, off, cs, rfl, hl, hb, hc, hx⟩⟩
theorem dnum_of {w : World} {lo : Nat → Prop} {n : Int} {v : Value} (h : DVal w lo (.int n) v) : v = .int .i64 n ∧ (Lit.int .i64 n).wf = true := by unfold DVal at h; exact h
theorem dstr_of {w : World} {lo : Nat → Prop} {s : ByteArray} {v : Value} (h : DVal w lo (.str s) v) : v = .string s ∧ s.size ≤ maxLen := by unfold DVal at h; exact h
theorem dbool_of {w : World} {lo : Nat → Prop} {b : Bool} {v : Value} (h : DVal w lo (.bool b) v) : v = .bool b := by unfold DVal at h; exact h
/- A list that is empty, or lies at a place. -/
def DAt (w : World) (lo : Nat → Prop) (a : Option Addr) (n : Nat) (ds : List D) : Prop := n ≤ ds.length ∧ ds.length ≤ 17592186044416 ∧ (n = 0 ∨ ∃ b off cs, a = some ⟨b, off, none⟩ ∧ lo b ∧ b < w.heap.size ∧ CellsIn w b off cs ∧ DVals w lo ds cs)
theorem dlist_of {w : World} {lo : Nat → Prop} {n : Nat} {ds : List D} {v : Value} (h : DVal w lo (.list n ds) v) : ∃ a cap, v = .slice a n cap ∧ DAt w lo a n ds := by unfold DVal at h; exact h
theorem DAt.val {w : World} {lo : Nat → Prop} {n cap : Nat} {a : Option Addr} {ds : List D} (h : DAt w lo a n ds) : DVal w lo (.list n ds) (.slice a n cap) := by unfold DVal; exact ⟨a, cap, rfl, h⟩
theorem DAt.moves {A A' : Nat → Prop} {w w' : World} {n : Nat} {a : Option Addr} {ds : List D} (h : DAt w A a n ds) (hs : Moves w A w' A') : DAt w' A' a n ds := by
  obtain ⟨h1, h2, h3⟩ := h
  refine ⟨h1, h2, ?_⟩
  rcases h3 with h4 | ⟨b, off, cs, ha, hl, hb, hc, hx⟩
  · exact Or.inl h4
  · exact Or.inr ⟨b, off, cs, ha, (hs.2 b hb hl).1, Nat.lt_of_lt_of_le hb hs.1, hc.moves hs hl hb, DVals.moves hs ds cs hx⟩
theorem DAt.later {A : Nat → Prop} {w w' : World} {n : Nat} {a : Option Addr} {ds : List D} (h : DAt w A a n ds) (hb : Below w.heap.size w w') : DAt w' A a n ds := h.moves (Moves.of_below hb A)
theorem DAt.bound {A : Nat → Prop} {w : World} {n : Nat} {a : Option Addr} {ds : List D} (h : DAt w A a n ds) : n ≤ 17592186044416 := Nat.le_trans h.1 h.2.1
theorem DAt.cell {A : Nat → Prop} {w : World} {n : Nat} {a : Option Addr} {ds : List D} (h : DAt w A a n ds) (hn : 0 < n) : ∃ b off, a = some ⟨b, off, none⟩ ∧ b < w.heap.size ∧ ∀ (j : Nat) (d : D), ds[j]? = some d → ∃ v, w.cell? ⟨b, off + j, none⟩ = some v ∧ DVal w A d v := by
  rcases h.2.2 with h0 | ⟨b, off, cs, ha, _, hb, hc, hx⟩
  · omega
  · refine ⟨b, off, ha, hb, fun j d hj => ?_⟩
    obtain ⟨v, hv, hd⟩ := hx.get j d hj
    exact ⟨v, hc j v hv, hd⟩

/- Expressions and statements. -/
inductive Ex where
  | mk (op n : Int) (mod name : ByteArray) (args : List Ex)
def Ex.op : Ex → Int | .mk op _ _ _ _ => op
def Ex.n : Ex → Int | .mk _ n _ _ _ => n
def Ex.mod : Ex → ByteArray | .mk _ _ m _ _ => m
def Ex.name : Ex → ByteArray | .mk _ _ _ m _ => m
def Ex.args : Ex → List Ex | .mk _ _ _ _ l => l
inductive St where
  | mk (op : Int) (mod name : ByteArray) (args : List Ex) (body other : List St)
def St.op : St → Int | .mk op _ _ _ _ _ => op
def St.mod : St → ByteArray | .mk _ m _ _ _ _ => m
def St.name : St → ByteArray | .mk _ _ m _ _ _ => m
def St.args : St → List Ex | .mk _ _ _ l _ _ => l
def St.body : St → List St | .mk _ _ _ _ l _ => l
def St.other : St → List St | .mk _ _ _ _ _ l => l
mutual
def Ex.ds : Ex → List D
  | .mk op n mod name args => [.int op, .int n, .str mod, .str name, .list args.length (exsD args)]
def exsD : List Ex → List D
  | [] => []
  | x :: r => x.ds ++ exsD r
end
mutual
def St.ds : St → List D
  | .mk op mod name args body other => [.int op, .str mod, .str name, .list args.length (exsD args), .list body.length (stsD body), .list other.length (stsD other)]
def stsD : List St → List D
  | [] => []
  | x :: r => x.ds ++ stsD r
end
theorem Ex.ds_len (x : Ex) : x.ds.length = 5 := by cases x; unfold Ex.ds; rfl
theorem St.ds_len (x : St) : x.ds.length = 6 := by cases x; unfold St.ds; rfl
theorem exsD_append : ∀ (l m : List Ex), exsD (l ++ m) = exsD l ++ exsD m
  | [], m => by simp [exsD]
  | x :: r, m => by simp [exsD, exsD_append r m]
theorem stsD_append : ∀ (l m : List St), stsD (l ++ m) = stsD l ++ stsD m
  | [], m => by simp [stsD]
  | x :: r, m => by simp [stsD, stsD_append r m]
theorem exsD_one (x : Ex) : exsD [x] = x.ds := by simp [exsD]
theorem stsD_one (x : St) : stsD [x] = x.ds := by simp [stsD]
theorem exsD_get : ∀ (l : List Ex) (i : Nat) (h : i < l.length) (j : Nat), j < 5 → (exsD l)[i * 5 + j]? = (l[i].ds)[j]?
  | [], i, h, _, _ => by simp at h
  | x :: r, 0, _, j, hj => by
    have := x.ds_len
    simp only [exsD, List.getElem_cons_zero]
    rw [List.getElem?_append_left (by omega), Nat.zero_mul, Nat.zero_add]
  | x :: r, i + 1, h, j, hj => by
    have := x.ds_len
    simp only [exsD, List.getElem_cons_succ]
    rw [List.getElem?_append_right (by omega), show (i + 1) * 5 + j - x.ds.length = i * 5 + j from by omega]
    exact exsD_get r i (by simpa using h) j hj
theorem stsD_get : ∀ (l : List St) (i : Nat) (h : i < l.length) (j : Nat), j < 6 → (stsD l)[i * 6 + j]? = (l[i].ds)[j]?
  | [], i, h, _, _ => by simp at h
  | x :: r, 0, _, j, hj => by
    have := x.ds_len
    simp only [stsD, List.getElem_cons_zero]
    rw [List.getElem?_append_left (by omega), Nat.zero_mul, Nat.zero_add]
  | x :: r, i + 1, h, j, hj => by
    have := x.ds_len
    simp only [stsD, List.getElem_cons_succ]
    rw [List.getElem?_append_right (by omega), show (i + 1) * 6 + j - x.ds.length = i * 6 + j from by omega]
    exact stsD_get r i (by simpa using h) j hj

/- Where one of them lies: its cells. -/
structure ExAt (w : World) (A : Nat → Prop) (b o : Nat) (x : Ex) (aa : Option Addr) (cap : Nat) : Prop where
  lt : b < w.heap.size
  c0 : w.cell? ⟨b, o, none⟩ = some (.int .i64 x.op)
  c1 : w.cell? ⟨b, o + 1, none⟩ = some (.int .i64 x.n)
  c2 : w.cell? ⟨b, o + 2, none⟩ = some (.string x.mod)
  c3 : w.cell? ⟨b, o + 3, none⟩ = some (.string x.name)
  c4 : w.cell? ⟨b, o + 4, none⟩ = some (.slice aa x.args.length cap)
  args : DAt w A aa x.args.length (exsD x.args)
  wop : (Lit.int .i64 x.op).wf = true
  wn : (Lit.int .i64 x.n).wf = true
  wm : x.mod.size ≤ maxLen
  wna : x.name.size ≤ maxLen
structure StAt (w : World) (A : Nat → Prop) (b o : Nat) (x : St) (a1 : Option Addr) (c1' : Nat) (a2 : Option Addr) (c2' : Nat) (a3 : Option Addr) (c3' : Nat) : Prop where
  lt : b < w.heap.size
  c0 : w.cell? ⟨b, o, none⟩ = some (.int .i64 x.op)
  c1 : w.cell? ⟨b, o + 1, none⟩ = some (.string x.mod)
  c2 : w.cell? ⟨b, o + 2, none⟩ = some (.string x.name)
  c3 : w.cell? ⟨b, o + 3, none⟩ = some (.slice a1 x.args.length c1')
  c4 : w.cell? ⟨b, o + 4, none⟩ = some (.slice a2 x.body.length c2')
  c5 : w.cell? ⟨b, o + 5, none⟩ = some (.slice a3 x.other.length c3')
  args : DAt w A a1 x.args.length (exsD x.args)
  body : DAt w A a2 x.body.length (stsD x.body)
  other : DAt w A a3 x.other.length (stsD x.other)
  wop : (Lit.int .i64 x.op).wf = true
  wm : x.mod.size ≤ maxLen
  wna : x.name.size ≤ maxLen
theorem DAt.ex {w : World} {A : Nat → Prop} {a : Option Addr} {l : List Ex} (h : DAt w A a l.length (exsD l)) (i : Nat) (hi : i < l.length) : ∃ b off aa cap, a = some ⟨b, off, none⟩ ∧ ExAt w A b (off + i * 5) l[i] aa cap := by
  obtain ⟨b, off, ha, hb, hc⟩ := h.cell (by omega)
  generalize hx : l[i] = x
  obtain ⟨op, n, mod, name, args⟩ := x
  have g : ∀ j d, j < 5 → (Ex.mk op n mod name args).ds[j]? = some d → ∃ v, w.cell? ⟨b, off + i * 5 + j, none⟩ = some v ∧ DVal w A d v := fun j d hj hd => by
    rw [Nat.add_assoc]; exact hc (i * 5 + j) d ((exsD_get l i hi j hj).trans (by rw [hx]; exact hd))
  obtain ⟨v0, k0, d0⟩ := g 0 (.int op) (by omega) (by simp [Ex.ds])
  obtain ⟨v1, k1, d1⟩ := g 1 (.int n) (by omega) (by simp [Ex.ds])
  obtain ⟨v2, k2, d2⟩ := g 2 (.str mod) (by omega) (by simp [Ex.ds])
  obtain ⟨v3, k3, d3⟩ := g 3 (.str name) (by omega) (by simp [Ex.ds])
  obtain ⟨v4, k4, d4⟩ := g 4 (.list args.length (exsD args)) (by omega) (by simp [Ex.ds])
  obtain ⟨rfl, w0⟩ := dnum_of d0
  obtain ⟨rfl, w1⟩ := dnum_of d1
  obtain ⟨rfl, w2⟩ := dstr_of d2
  obtain ⟨rfl, w3⟩ := dstr_of d3
  obtain ⟨aa, cap, rfl, hA⟩ := dlist_of d4
  exact ⟨b, off, aa, cap, ha, hb, k0, k1, k2, k3, k4, hA, w0, w1, w2, w3⟩
theorem DAt.st {w : World} {A : Nat → Prop} {a : Option Addr} {l : List St} (h : DAt w A a l.length (stsD l)) (i : Nat) (hi : i < l.length) : ∃ b off a1 c1 a2 c2 a3 c3, a = some ⟨b, off, none⟩ ∧ StAt w A b (off + i * 6) l[i] a1 c1 a2 c2 a3 c3 := by
  obtain ⟨b, off, ha, hb, hc⟩ := h.cell (by omega)
  generalize hx : l[i] = x
  obtain ⟨op, mod, name, args, body, other⟩ := x
  have g : ∀ j d, j < 6 → (St.mk op mod name args body other).ds[j]? = some d → ∃ v, w.cell? ⟨b, off + i * 6 + j, none⟩ = some v ∧ DVal w A d v := fun j d hj hd => by
    rw [Nat.add_assoc]; exact hc (i * 6 + j) d ((stsD_get l i hi j hj).trans (by rw [hx]; exact hd))
  obtain ⟨v0, k0, d0⟩ := g 0 (.int op) (by omega) (by simp [St.ds])
  obtain ⟨v1, k1, d1⟩ := g 1 (.str mod) (by omega) (by simp [St.ds])
  obtain ⟨v2, k2, d2⟩ := g 2 (.str name) (by omega) (by simp [St.ds])
  obtain ⟨v3, k3, d3⟩ := g 3 (.list args.length (exsD args)) (by omega) (by simp [St.ds])
  obtain ⟨v4, k4, d4⟩ := g 4 (.list body.length (stsD body)) (by omega) (by simp [St.ds])
  obtain ⟨v5, k5, d5⟩ := g 5 (.list other.length (stsD other)) (by omega) (by simp [St.ds])
  obtain ⟨rfl, w0⟩ := dnum_of d0
  obtain ⟨rfl, w1⟩ := dstr_of d1
  obtain ⟨rfl, w2⟩ := dstr_of d2
  obtain ⟨a1, c1, rfl, h1⟩ := dlist_of d3
  obtain ⟨a2, c2, rfl, h2⟩ := dlist_of d4
  obtain ⟨a3, c3, rfl, h3⟩ := dlist_of d5
  exact ⟨b, off, a1, c1, a2, c2, a3, c3, ha, hb, k0, k1, k2, k3, k4, k5, h1, h2, h3, w0, w1, w2⟩

/- What is declared, procedures, modules. -/
structure De where
  kind : Int
  name : ByteArray
  pub : Bool
  n : Int
structure Pr where
  name : ByteArray
  pub : Bool
  params : List ByteArray
  locals : List ByteArray
  body : List St
structure Mo where
  name : ByteArray
  uses : List ByteArray
  decls : List De
  procs : List Pr
  main : List St
def De.ds (d : De) : List D := [.int d.kind, .str d.name, .bool d.pub, .int d.n]
def strsD (l : List ByteArray) : List D := l.map .str
def Pr.ds (p : Pr) : List D := [.str p.name, .bool p.pub, .list p.params.length (strsD p.params), .list p.locals.length (strsD p.locals), .list p.body.length (stsD p.body)]
def Mo.ds (m : Mo) : List D := [.str m.name, .list m.uses.length (strsD m.uses), .list m.decls.length (m.decls.flatMap De.ds), .list m.procs.length (m.procs.flatMap Pr.ds), .list m.main.length (stsD m.main)]
def prsD (l : List Pr) : List D := l.flatMap Pr.ds
def desD (l : List De) : List D := l.flatMap De.ds
def mosD (l : List Mo) : List D := l.flatMap Mo.ds
theorem flat_get {α : Type} (f : α → List D) (k : Nat) (hf : ∀ x, (f x).length = k) : ∀ (l : List α) (i : Nat) (h : i < l.length) (j : Nat), j < k → (l.flatMap f)[i * k + j]? = (f l[i])[j]?
  | [], i, h, _, _ => by simp at h
  | x :: r, 0, _, j, hj => by
    have := hf x
    simp only [List.flatMap_cons, List.getElem_cons_zero]
    rw [List.getElem?_append_left (by omega), Nat.zero_mul, Nat.zero_add]
  | x :: r, i + 1, h, j, hj => by
    have := hf x
    have e : (i + 1) * k = i * k + k := Nat.succ_mul i k
    simp only [List.flatMap_cons, List.getElem_cons_succ]
    rw [List.getElem?_append_right (by omega), show (i + 1) * k + j - (f x).length = i * k + j from by omega]
    exact flat_get f k hf r i (by simpa using h) j hj
structure DeAt (w : World) (b o : Nat) (x : De) : Prop where
  lt : b < w.heap.size
  c0 : w.cell? ⟨b, o, none⟩ = some (.int .i64 x.kind)
  c1 : w.cell? ⟨b, o + 1, none⟩ = some (.string x.name)
  c2 : w.cell? ⟨b, o + 2, none⟩ = some (.bool x.pub)
  c3 : w.cell? ⟨b, o + 3, none⟩ = some (.int .i64 x.n)
  wk : (Lit.int .i64 x.kind).wf = true
  wn : (Lit.int .i64 x.n).wf = true
  wna : x.name.size ≤ maxLen
structure PrAt (w : World) (A : Nat → Prop) (b o : Nat) (x : Pr) (a1 : Option Addr) (c1' : Nat) (a2 : Option Addr) (c2' : Nat) (a3 : Option Addr) (c3' : Nat) : Prop where
  lt : b < w.heap.size
  c0 : w.cell? ⟨b, o, none⟩ = some (.string x.name)
  c1 : w.cell? ⟨b, o + 1, none⟩ = some (.bool x.pub)
  c2 : w.cell? ⟨b, o + 2, none⟩ = some (.slice a1 x.params.length c1')
  c3 : w.cell? ⟨b, o + 3, none⟩ = some (.slice a2 x.locals.length c2')
  c4 : w.cell? ⟨b, o + 4, none⟩ = some (.slice a3 x.body.length c3')
  params : DAt w A a1 x.params.length (strsD x.params)
  locals : DAt w A a2 x.locals.length (strsD x.locals)
  body : DAt w A a3 x.body.length (stsD x.body)
  wna : x.name.size ≤ maxLen
/- A module, as a value: where its lists are. -/
structure MoAt (w : World) (A : Nat → Prop) (m : Mo) (v : Value) (a1 : Option Addr) (c1 : Nat) (a2 : Option Addr) (c2 : Nat) (a3 : Option Addr) (c3 : Nat) (a4 : Option Addr) (c4 : Nat) : Prop where
  val : v = .agg #[.string m.name, .slice a1 m.uses.length c1, .slice a2 m.decls.length c2, .slice a3 m.procs.length c3, .slice a4 m.main.length c4]
  wna : m.name.size ≤ maxLen
  uses : DAt w A a1 m.uses.length (strsD m.uses)
  decls : DAt w A a2 m.decls.length (desD m.decls)
  procs : DAt w A a3 m.procs.length (prsD m.procs)
  main : DAt w A a4 m.main.length (stsD m.main)
theorem MoAt.later {w w' : World} {A : Nat → Prop} {m : Mo} {v : Value} {a1 a2 a3 a4 : Option Addr} {c1 c2 c3 c4 : Nat} (h : MoAt w A m v a1 c1 a2 c2 a3 c3 a4 c4) (hb : Below w.heap.size w w') : MoAt w' A m v a1 c1 a2 c2 a3 c3 a4 c4 :=
  ⟨h.val, h.wna, h.uses.later hb, h.decls.later hb, h.procs.later hb, h.main.later hb⟩
theorem DAt.str {w : World} {A : Nat → Prop} {a : Option Addr} {l : List ByteArray} (h : DAt w A a l.length (strsD l)) (i : Nat) (hi : i < l.length) : ∃ b off, a = some ⟨b, off, none⟩ ∧ b < w.heap.size ∧ w.cell? ⟨b, off + i, none⟩ = some (.string l[i]) ∧ l[i].size ≤ maxLen := by
  obtain ⟨b, off, ha, hb, hc⟩ := h.cell (by omega)
  obtain ⟨v, hv, hd⟩ := hc i (.str l[i]) (by simp [strsD, hi])
  obtain ⟨rfl, h2⟩ := dstr_of hd
  exact ⟨b, off, ha, hb, hv, h2⟩
theorem DAt.de {w : World} {A : Nat → Prop} {a : Option Addr} {l : List De} (h : DAt w A a l.length (desD l)) (i : Nat) (hi : i < l.length) : ∃ b off, a = some ⟨b, off, none⟩ ∧ DeAt w b (off + i * 4) l[i] := by
  obtain ⟨b, off, ha, hb, hc⟩ := h.cell (by omega)
  generalize hx : l[i] = x
  obtain ⟨kind, name, pub, n⟩ := x
  have g : ∀ j d, j < 4 → (De.mk kind name pub n).ds[j]? = some d → ∃ v, w.cell? ⟨b, off + i * 4 + j, none⟩ = some v ∧ DVal w A d v := fun j d hj hd => by
    rw [Nat.add_assoc]; exact hc (i * 4 + j) d ((flat_get De.ds 4 (fun _ => rfl) l i hi j hj).trans (by rw [hx]; exact hd))
  obtain ⟨v0, k0, d0⟩ := g 0 (.int kind) (by omega) (by simp [De.ds])
  obtain ⟨v1, k1, d1⟩ := g 1 (.str name) (by omega) (by simp [De.ds])
  obtain ⟨v2, k2, d2⟩ := g 2 (.bool pub) (by omega) (by simp [De.ds])
  obtain ⟨v3, k3, d3⟩ := g 3 (.int n) (by omega) (by simp [De.ds])
  obtain ⟨rfl, w0⟩ := dnum_of d0
  obtain ⟨rfl, w1⟩ := dstr_of d1
  obtain rfl := dbool_of d2
  obtain ⟨rfl, w3⟩ := dnum_of d3
  exact ⟨b, off, ha, hb, k0, k1, k2, k3, w0, w3, w1⟩
theorem DAt.pr {w : World} {A : Nat → Prop} {a : Option Addr} {l : List Pr} (h : DAt w A a l.length (prsD l)) (i : Nat) (hi : i < l.length) : ∃ b off a1 c1 a2 c2 a3 c3, a = some ⟨b, off, none⟩ ∧ PrAt w A b (off + i * 5) l[i] a1 c1 a2 c2 a3 c3 := by
  obtain ⟨b, off, ha, hb, hc⟩ := h.cell (by omega)
  generalize hx : l[i] = x
  obtain ⟨name, pub, params, locals, body⟩ := x
  have g : ∀ j d, j < 5 → (Pr.mk name pub params locals body).ds[j]? = some d → ∃ v, w.cell? ⟨b, off + i * 5 + j, none⟩ = some v ∧ DVal w A d v := fun j d hj hd => by
    rw [Nat.add_assoc]; exact hc (i * 5 + j) d ((flat_get Pr.ds 5 (fun _ => rfl) l i hi j hj).trans (by rw [hx]; exact hd))
  obtain ⟨v0, k0, d0⟩ := g 0 (.str name) (by omega) (by simp [Pr.ds])
  obtain ⟨v1, k1, d1⟩ := g 1 (.bool pub) (by omega) (by simp [Pr.ds])
  obtain ⟨v2, k2, d2⟩ := g 2 (.list params.length (strsD params)) (by omega) (by simp [Pr.ds])
  obtain ⟨v3, k3, d3⟩ := g 3 (.list locals.length (strsD locals)) (by omega) (by simp [Pr.ds])
  obtain ⟨v4, k4, d4⟩ := g 4 (.list body.length (stsD body)) (by omega) (by simp [Pr.ds])
  obtain ⟨rfl, w0⟩ := dstr_of d0
  obtain rfl := dbool_of d1
  obtain ⟨a1, c1, rfl, h1⟩ := dlist_of d2
  obtain ⟨a2, c2, rfl, h2⟩ := dlist_of d3
  obtain ⟨a3, c3, rfl, h3⟩ := dlist_of d4
  exact ⟨b, off, a1, c1, a2, c2, a3, c3, ha, hb, k0, k1, k2, k3, k4, h1, h2, h3, w0⟩
/- A module in a list: its five cells. -/
theorem DAt.mo {w : World} {A : Nat → Prop} {a : Option Addr} {l : List Mo} (h : DAt w A a l.length (mosD l)) (i : Nat) (hi : i < l.length) : ∃ b off v a1 c1 a2 c2 a3 c3 a4 c4, a = some ⟨b, off, none⟩ ∧ b < w.heap.size ∧ MoAt w A l[i] v a1 c1 a2 c2 a3 c3 a4 c4 ∧
    w.cell? ⟨b, off + i * 5, none⟩ = some (.string l[i].name) ∧ w.cell? ⟨b, off + i * 5 + 1, none⟩ = some (.slice a1 l[i].uses.length c1) ∧ w.cell? ⟨b, off + i * 5 + 2, none⟩ = some (.slice a2 l[i].decls.length c2) ∧
    w.cell? ⟨b, off + i * 5 + 3, none⟩ = some (.slice a3 l[i].procs.length c3) ∧ w.cell? ⟨b, off + i * 5 + 4, none⟩ = some (.slice a4 l[i].main.length c4) := by
  obtain ⟨b, off, ha, hb, hc⟩ := h.cell (by omega)
  generalize hx : l[i] = x
  obtain ⟨name, uses, decls, procs, main⟩ := x
  have g : ∀ j d, j < 5 → (Mo.mk name uses decls procs main).ds[j]? = some d → ∃ v, w.cell? ⟨b, off + i * 5 + j, none⟩ = some v ∧ DVal w A d v := fun j d hj hd => by
    rw [Nat.add_assoc]; exact hc (i * 5 + j) d ((flat_get Mo.ds 5 (fun _ => rfl) l i hi j hj).trans (by rw [hx]; exact hd))
  obtain ⟨v0, k0, d0⟩ := g 0 (.str name) (by omega) (by simp [Mo.ds])
  obtain ⟨v1, k1, d1⟩ := g 1 (.list uses.length (strsD uses)) (by omega) (by simp [Mo.ds])
  obtain ⟨v2, k2, d2⟩ := g 2 (.list decls.length (desD decls)) (by omega) (by simp [Mo.ds, desD])
  obtain ⟨v3, k3, d3⟩ := g 3 (.list procs.length (prsD procs)) (by omega) (by simp [Mo.ds, prsD])
  obtain ⟨v4, k4, d4⟩ := g 4 (.list main.length (stsD main)) (by omega) (by simp [Mo.ds])
  obtain ⟨rfl, w0⟩ := dstr_of d0
  obtain ⟨a1, c1, rfl, h1⟩ := dlist_of d1
  obtain ⟨a2, c2, rfl, h2⟩ := dlist_of d2
  obtain ⟨a3, c3, rfl, h3⟩ := dlist_of d3
  obtain ⟨a4, c4, rfl, h4⟩ := dlist_of d4
  exact ⟨b, off, _, a1, c1, a2, c2, a3, c3, a4, c4, ha, hb, ⟨rfl, w0, h1, h2, h3, h4⟩, k0, k1, k2, k3, k4⟩

end Go.Proofs.YtcekpobmbmnplaaGreatDoor

namespace Go.Proofs.YtcekpobmbmnplaaGreatDoor
open Go.RowKit

def txtL (t : Tk) : List UInt8 := if t.kind = 2 then Lib.decDigits t.n.toNat else t.text.data.toList
theorem txt_eq (t : Tk) : t.txt = strOf (txtL t) := by
  unfold Tk.txt txtL; split
  · rfl
  · exact (strOf_back _).symm
def showL : List Tk → List UInt8
  | [] => []
  | t :: r => txtL t ++ r.flatMap (fun t => 32 :: txtL t)
theorem showL_snoc (l : List Tk) (t : Tk) : showL (l ++ [t]) = showL l ++ (if l.length = 0 then [] else [32]) ++ txtL t := by
  cases l with
  | nil => simp [showL]
  | cons x r => simp [showL, List.flatMap_append]
def Right (ts : List Tk) : Prop := ts.all kindB = true ∧ ts.all Tk.okB = true
theorem Right.get {ts : List Tk} (h : Right ts) (k : Nat) (hk : k < ts.length) : kindB ts[k] = true ∧ Tk.okB ts[k] = true :=
  ⟨List.all_eq_true.1 h.1 _ (List.getElem_mem _), List.all_eq_true.1 h.2 _ (List.getElem_mem _)⟩
theorem ok_inB {t : Tk} (h : Tk.okB t = true) : t.inB := by
  intro hk
  unfold Tk.okB at h
  rw [if_neg (by omega), if_pos hk] at h
  simp at h
  exact h.2
theorem name_len {l : List UInt8} (h : Lx.nameB l = true) : l.length ≤ 8 := by
  unfold Lx.nameB at h; simp at h; exact h.1.2
theorem sign_len {l : List UInt8} (h : Lx.signL l = true) : l.length = 1 := by
  match l with
  | [_] => rfl
  | [] => simp [Lx.signL] at h
  | _ :: _ :: _ => simp [Lx.signL] at h
theorem txt_len {t : Tk} (h : Tk.okB t = true) : (txtL t).length ≤ 13 := by
  unfold txtL
  by_cases k2 : t.kind = 2
  · rw [if_pos k2]
    have := ok_inB h k2
    exact Lx.dec_len_tok 12 _ (by omega)
  · rw [if_neg k2]
    unfold Tk.okB at h
    by_cases k1 : t.kind = 1
    · rw [if_pos k1] at h; simp at h; have := name_len h.2; omega
    · rw [if_neg k1, if_neg k2] at h; simp at h; have := sign_len h.2; omega
theorem txt_size {t : Tk} (h : Tk.okB t = true) : t.txt.size ≤ 13 := by rw [txt_eq, strOf_size]; exact txt_len h
theorem show_take_snoc (ts : List Tk) (k : Nat) (hk : k < ts.length) : showL (ts.take (k + 1)) = showL (ts.take k) ++ (if k = 0 then [] else [32]) ++ txtL ts[k] := by
  rw [List.take_succ_eq_append_getElem hk, showL_snoc, List.length_take, Nat.min_eq_left (by omega)]
theorem show_len {ts : List Tk} (h : Right ts) : ∀ k, k ≤ ts.length → (showL (ts.take k)).length ≤ 14 * k := by
  intro k
  induction k with
  | zero => intro _; simp [showL]
  | succ k ih =>
    intro hk
    rw [show_take_snoc ts k (by omega)]
    have h1 := ih (by omega)
    have h2 := txt_len (h.get k (by omega)).2
    rw [List.length_append, List.length_append]
    split <;> simp <;> omega
theorem blank_eq : (⟨#[32]⟩ : ByteArray) = strOf [32] := rfl
theorem show_step_first (ts : List Tk) (k : Nat) (hk : k < ts.length) (h0 : k = 0) : strOf (showL (ts.take k)) ++ ts[k].txt = strOf (showL (ts.take (k + 1))) := by
  rw [txt_eq, strOf_append, show_take_snoc ts k hk, if_pos h0]; simp
theorem show_step_next (ts : List Tk) (k : Nat) (hk : k < ts.length) (h0 : 0 < k) : strOf (showL (ts.take k)) ++ ⟨#[32]⟩ ++ ts[k].txt = strOf (showL (ts.take (k + 1))) := by
  rw [txt_eq, blank_eq, strOf_append, strOf_append, show_take_snoc ts k hk, if_neg (by omega)]

set_option maxRecDepth 100000 in
set_option maxHeartbeats 800000 in
theorem ToksText_any (a : Option Addr) (cap : Nat) (ts : List Tk) (w : World) (hT : ToksAt w a ts) (hl : ts.length ≤ 4096) (hR : Right ts) :
    Calls Tryz.prog 57 #[.slice a ts.length cap] w fun e w' => e = .returned (.string (strOf (showL ts))) ∧ Below w.heap.size w w' := by
  have HT : Hid (ToksAt w a ts) := hT
  have HR : Hid (Right ts) := hR
  clear hT hR
  go_enter Tryz.func57, Tryz.ntmps57
  go_wp2_with fail
  go_loopw [4, 3] (fun i s wr => ∃ k : Nat, k ≤ ts.length ∧ i = .int .i64 k ∧ s = .string (strOf (showL (ts.take k))) ∧ Below w.heap.size w wr) (fun i _ _ => ts.length - (intOf i).toNat)
  case atStart => exact ⟨0, Nat.zero_le _, rfl, rfl, Below.refl _ _⟩
  case round =>
    obtain ⟨k, hk, rfl, rfl, hb⟩ := hrel
    by_cases hlt : k < ts.length
    · obtain ⟨b, off, rfl, hT⟩ := (HT.out.later hb).place hlt
      have hc0 := hT.kind k hlt
      have hc1 := hT.num k hlt
      have hc2 := hT.text k hlt
      clear hT
      have hin := HR.out.get k hlt
      have HI : Hid (ts[k].inB) := ok_inB hin.2
      have hts := txt_size hin.2
      clear hin
      have hss : (strOf (showL (ts.take k))).size ≤ 60000 := by rw [strOf_size]; have := show_len HR.out k hk; omega
      by_cases h0 : k = 0
      · have HS : Hid (strOf (showL (ts.take k)) ++ ts[k].txt = strOf (showL (ts.take (k + 1)))) := show_step_first ts k hlt h0
        have h0' : ¬ 0 < k := by omega
        clear h0
        generalize strOf (showL (ts.take k)) = S at *
        go_wp2_with fail
        refine (TokText_any ts[k] _ HI.out).mono ?_
        rintro e w' ⟨rfl, hb2⟩
        go_wp2_with fail
        go_roundw
        case rel => exact ⟨k + 1, by omega, by go_num, by rw [HS.out], hb.trans (hb2.mono hb.size)⟩
        case measure => simp [intOf]; omega
      · have h0' : 0 < k := by omega
        have HS : Hid (strOf (showL (ts.take k)) ++ ⟨#[32]⟩ ++ ts[k].txt = strOf (showL (ts.take (k + 1)))) := show_step_next ts k hlt h0'
        clear h0
        generalize strOf (showL (ts.take k)) = S at *
        go_wp2_with fail
        refine (TokText_any ts[k] _ HI.out).mono ?_
        rintro e w' ⟨rfl, hb2⟩
        go_wp2_with fail
        go_roundw
        case rel => exact ⟨k + 1, by omega, by go_num, by rw [HS.out], hb.trans (hb2.mono hb.size)⟩
        case measure => simp [intOf]; omega
    · have HF : Hid (showL (ts.take k) = showL ts) := by show showL _ = _; rw [List.take_of_length_le (by omega)]
      go_wp2_with fail
      go_ret
      exact ⟨ret_str (by rw [HF.out]), hb⟩

end Go.Proofs.YtcekpobmbmnplaaGreatDoor

namespace Go.Proofs.YtcekpobmbmnplaaGreatDoor
open Go.RowKit

theorem lt_of_heap {w : World} {b : Nat} {o : Obj} (h : w.heap[b]? = some o) : b < w.heap.size := by
  rcases Nat.lt_or_ge b w.heap.size with h' | h'
  · exact h'
  · simp [Array.getElem?_eq_none h'] at h
theorem builderF_later {T e : TypeId} {B b : Nat} {bs : List Value} {W W' : World} (h : Lib.IsBuilderF T e B b bs W) (hb : Below W.heap.size W W') : Lib.IsBuilderF T e B b bs W' := by
  have key : ∀ p, Lib.BuilderAtF T e B b p bs W → Lib.BuilderAtF T e B b p bs W' := by
    rintro p ⟨hB, v, hc, ⟨h1, h2⟩, hne⟩
    refine ⟨hB, v, (hb.block b (lt_of_heap hc)).trans hc, ⟨h1, ?_⟩, hne⟩
    rcases h2 with h2 | ⟨g, cap, cur, fz, hv, hg, hc, hrest⟩
    · exact Or.inl h2
    · exact Or.inr ⟨g, cap, cur, fz, hv, hg, (hb.block g (lt_of_heap hc)).trans hc, hrest⟩
  rcases h with h | h
  · exact Or.inl (key _ h)
  · exact Or.inr (key _ h)
theorem builder_first (ts : List Tk) (k : Nat) (hk : k < ts.length) (h0 : k = 0) : Lib.byteCells (showL (ts.take k)) ++ Lib.strCells ts[k].txt = Lib.byteCells (showL (ts.take (k + 1))) := by
  rw [txt_eq, Lib.strCells_eq, strOf_list, ← Lib.byteCells_append, show_take_snoc ts k hk, if_pos h0, List.append_nil]
theorem builder_next (ts : List Tk) (k : Nat) (hk : k < ts.length) (h0 : 0 < k) : Lib.byteCells (showL (ts.take k)) ++ [.int .u8 32] ++ Lib.strCells ts[k].txt = Lib.byteCells (showL (ts.take (k + 1))) := by
  rw [txt_eq, Lib.strCells_eq, strOf_list, show_take_snoc ts k hk, if_neg (by omega), Lib.byteCells_append, Lib.byteCells_append]
  rfl

def showR (ts : List Tk) : ByteArray := if checkN ts = 0 then strOf (showL ts) else ⟨#[]⟩
theorem checkN_zero {ts : List Tk} (h : checkN ts = 0) : Right ts ∧ ts.length ≤ 4096 := by
  unfold checkN at h
  split at h
  · split at h
    · split at h
      · omega
      · exact ⟨⟨by assumption, by assumption⟩, by omega⟩
    · omega
  · omega

set_option maxRecDepth 100000 in
set_option maxHeartbeats 1000000 in
theorem Show_any (a : Option Addr) (cap : Nat) (ts : List Tk) (w : World) (hT : ToksAt w a ts) (hl : ts.length ≤ 1000000000000000) (htab : Tab w) :
    Calls Tryz.prog 14 #[.slice a ts.length cap] w fun e w' => e = .returned (.tuple #[.string (showR ts), .int .i64 (checkN ts)]) ∧ Below w.heap.size w w' := by
  have HT : Hid (ToksAt w a ts) := hT
  clear hT
  by_cases h0 : checkN ts = 0
  · obtain ⟨hR, hl4⟩ := checkN_zero h0
    have HR : Hid (Right ts) := hR
    have HC : Hid (∀ (w : World), ToksAt w a ts → Calls Tryz.prog 31 #[.slice a ts.length cap] w fun e w' => e = .returned (.int .i64 0) ∧ Below w.heap.size w w') := fun w hT => by
      have := Check_any a cap ts w hT hl
      rw [h0] at this
      exact this
    have HE : Hid (showR ts = strOf (showL ts) ∧ checkN ts = 0) := ⟨if_pos h0, h0⟩
    clear h0 hR hl
    go_enter Tryz.func14, Tryz.ntmps14
    go_wp2_with fail
    refine (HC.out _ HT.out).mono ?_
    rintro e w1 ⟨rfl, hb1⟩
    clear HC
    go_wp2_with fail
    go_loopw [15, 6, 7] (fun i _ _ wr => ∃ k : Nat, k ≤ ts.length ∧ i = .int .i64 k ∧ Lib.IsBuilderF 66 5 w1.heap.size w1.heap.size (Lib.byteCells (showL (ts.take k))) wr ∧ Below w1.heap.size w1 wr) (fun i _ _ _ => ts.length - (intOf i).toNat)
    case atStart => exact ⟨0, Nat.zero_le _, rfl, Lib.IsBuilderF.of (Lib.fresh_isBuilder 66 5 w1), (Below.refl _ _).alloc (Nat.le_refl _) _⟩
    case round =>
      obtain ⟨k, hk, rfl, hB, hb⟩ := hrel
      by_cases hlt : k < ts.length
      · obtain ⟨b, off, rfl, hT⟩ := ((HT.out.later hb1).later hb).place hlt
        have hc0 := hT.kind k hlt
        have hc1 := hT.num k hlt
        have hc2 := hT.text k hlt
        have hlb := hT.lt
        clear hT
        have hin := HR.out.get k hlt
        have HI : Hid (ts[k].inB) := ok_inB hin.2
        have hts := txt_size hin.2
        clear hin
        have hss : (Lib.byteCells (showL (ts.take k))).length ≤ 60000 := by rw [Lib.byteCells_length]; have := show_len HR.out k hk; omega
        have HB : Hid (Lib.IsBuilderF 66 5 w1.heap.size w1.heap.size (Lib.byteCells (showL (ts.take k))) wr) := hB
        have htr : Tab wr := (htab.later hb1).later hb
        have hws : w1.heap.size < wr.heap.size := by
          rcases hB with h | h
          · exact h.lt
          · exact h.lt
        clear hB
        by_cases h0 : k = 0
        · have HS : Hid (Lib.byteCells (showL (ts.take k)) ++ Lib.strCells ts[k].txt = Lib.byteCells (showL (ts.take (k + 1)))) := builder_first ts k hlt h0
          have h0' : ¬ 0 < k := by omega
          clear h0
          generalize Lib.byteCells (showL (ts.take k)) = bs at *
          go_wp2_with fail
          refine (tokenText_any ts[k] _ HI.out ?_).mono ?_
          · exact htr.later ((Below.refl _ _).alloc (Nat.le_refl _) _)
          rintro e w3 ⟨rfl, hb3⟩
          have hB3 := builderF_later (builderF_later HB.out ((Below.refl _ _).alloc (Nat.le_refl _) (Obj.cells #[Value.int IntKind.i64 ts[k].kind, Value.int IntKind.i64 ts[k].n, Value.string ts[k].text] 68))) hb3
          have hz3 := hb3.size
          simp at hz3
          go_wp2_with fail
          refine (Tryz.Builder_WriteString_k w1.heap.size w1.heap.size bs ts[k].txt _ hB3 (by omega) (by omega)).mono ?_
          rintro e w4 ⟨rfl, hB4, hb4, hO4⟩
          clear hB3 hO4
          go_wp2_with fail
          go_roundw
          case rel => exact ⟨k + 1, by omega, by go_num, by rw [← HS.out]; exact Or.inr hB4, ((hb.alloc hb.size _).trans (hb3.mono (by simp; omega))).trans hb4⟩
          case measure => simp [intOf]; omega
        · have h0' : 0 < k := by omega
          have HS : Hid (Lib.byteCells (showL (ts.take k)) ++ [.int .u8 32] ++ Lib.strCells ts[k].txt = Lib.byteCells (showL (ts.take (k + 1)))) := builder_next ts k hlt h0'
          clear h0
          generalize Lib.byteCells (showL (ts.take k)) = bs at *
          go_wp2_with fail
          refine (Tryz.Builder_WriteByte_k w1.heap.size w1.heap.size bs 32 _ ?_ (by omega) (by simp; omega)).mono ?_
          · exact builderF_later HB.out ((Below.refl _ _).alloc (Nat.le_refl _) _)
          rintro e w2 ⟨rfl, hB2, hb2, hO2⟩
          have hh : w2.heap[wr.heap.size]? = some (Obj.cells #[Value.int IntKind.i64 ts[k].kind, Value.int IntKind.i64 ts[k].n, Value.string ts[k].text] 68) :=
            hO2 wr.heap.size _ (_root_.Go.heap_alloc_new wr _) (by simp; omega) (fun c fz h => by simp at h)
          have hd0 : w2.cell? ⟨wr.heap.size, 0, none⟩ = some (.int .i64 ts[k].kind) := by rw [Lib.cell_of_heap hh]; rfl
          have hd1 : w2.cell? ⟨wr.heap.size, 1, none⟩ = some (.int .i64 ts[k].n) := by rw [Lib.cell_of_heap hh]; rfl
          have hd2 : w2.cell? ⟨wr.heap.size, 2, none⟩ = some (.string ts[k].text) := by rw [Lib.cell_of_heap hh]; rfl
          have htb2 : Tab w2 := by
            refine ((htr.later ((Below.refl _ _).alloc (Nat.le_refl _) _)).below (B := w1.heap.size) ?_ hb2)
            exact (htab.later hb1).2
          have hz2 := hb2.size
          simp at hz2
          clear hO2 hh
          go_wp2_with fail
          refine (tokenText_any ts[k] _ HI.out htb2).mono ?_
          rintro e w3 ⟨rfl, hb3⟩
          have hB3 := builderF_later (Or.inr hB2) hb3
          have hz3 := hb3.size
          clear hd0 hd1 hd2
          go_wp2_with fail
          refine (Tryz.Builder_WriteString_k w1.heap.size w1.heap.size (bs ++ [.int .u8 32]) ts[k].txt _ hB3 (by rw [List.length_append]; simp only [List.length_cons, List.length_nil]; omega) (by omega)).mono ?_
          rintro e w4 ⟨rfl, hB4, hb4, hO4⟩
          clear hB3 hO4
          go_wp2_with fail
          go_roundw
          case rel => exact ⟨k + 1, by omega, by go_num, by rw [← HS.out]; exact Or.inr hB4, (((hb.alloc hb.size _).trans hb2).trans (hb3.mono (by omega))).trans hb4⟩
          case measure => simp [intOf]; omega
      · have HF : Hid (showL (ts.take k) = showL ts) := by show showL _ = _; rw [List.take_of_length_le (by omega)]
        go_wp2_with fail
        refine (Tryz.Builder_String_any_k w1.heap.size w1.heap.size (showL (ts.take k)) _ hB hb.size).mono ?_
        rintro e w5 ⟨rfl, hB5, hb5, hO5⟩
        clear hB5 hO5 hB
        go_wp2_with fail
        go_ret2
        exact ⟨by rw [HE.out.1, HE.out.2, ← HF.out]; rfl, hb1.trans ((hb.trans hb5).mono hb1.size)⟩
  · have HC : Hid (Calls Tryz.prog 31 #[.slice a ts.length cap] w fun e w' => e = .returned (.int .i64 (checkN ts)) ∧ Below w.heap.size w w') := Check_any a cap ts w HT.out hl
    have HE : Hid (showR ts = ⟨#[]⟩) := if_neg h0
    have hne : (checkN ts != 0) = true := by rw [bne_iff_ne]; exact h0
    clear h0
    generalize checkN ts = N at *
    go_enter Tryz.func14, Tryz.ntmps14
    go_wp2_with fail
    refine HC.out.mono ?_
    rintro e w1 ⟨rfl, hb1⟩
    clear HC
    go_wp2_with fail
    go_ret2
    exact ⟨by rw [HE.out]; rfl, hb1⟩

end Go.Proofs.YtcekpobmbmnplaaGreatDoor

namespace Go.Proofs.YtcekpobmbmnplaaGreatDoor
open Go.RowKit

def blankB (c : UInt8) : Bool := c == 32 || c == 10
def lexAt (s : ByteArray) (a : Nat) : Option (List Tk) :=
  if h : a < s.size then
    if blankB s[a] then lexAt s (a + Lx.pieceN s a)
    else match tokOf (s.extract a (a + Lx.pieceN s a)) with
      | none => none
      | some t => (lexAt s (a + Lx.pieceN s a)).map (t :: ·)
  else some []
termination_by s.size - a
decreasing_by
  all_goals have := Lx.pieceN_pos s a; omega

theorem lexAt_end (s : ByteArray) (a : Nat) (h : ¬ a < s.size) : lexAt s a = some [] := by rw [lexAt, dif_neg h]
theorem lexAt_blank (s : ByteArray) (a : Nat) (h : a < s.size) (hb : blankB s[a] = true) : lexAt s a = lexAt s (a + Lx.pieceN s a) := by
  rw [lexAt, dif_pos h, if_pos hb]
theorem lexAt_none (s : ByteArray) (a : Nat) (h : a < s.size) (hb : blankB s[a] = false) (ht : tokOf (s.extract a (a + Lx.pieceN s a)) = none) : lexAt s a = none := by
  rw [lexAt, dif_pos h, if_neg (by simp [hb]), ht]
theorem lexAt_some (s : ByteArray) (a : Nat) (t : Tk) (h : a < s.size) (hb : blankB s[a] = false) (ht : tokOf (s.extract a (a + Lx.pieceN s a)) = some t) : lexAt s a = (lexAt s (a + Lx.pieceN s a)).map (t :: ·) := by
  rw [lexAt, dif_pos h, if_neg (by simp [hb]), ht]

/- What the loops keep: the tokens so far, and what is still to be read. -/
def LexInv (s : ByteArray) (a : Nat) (ts : List Tk) : Prop := lexAt s 0 = (lexAt s a).map (ts ++ ·)
theorem LexInv.start (s : ByteArray) : LexInv s 0 [] := by
  unfold LexInv; cases lexAt s 0 <;> rfl
theorem LexInv.blank {s : ByteArray} {a : Nat} {ts : List Tk} (h : LexInv s a ts) (ha : a < s.size) (hb : blankB s[a] = true) : LexInv s (a + Lx.pieceN s a) ts := by
  unfold LexInv at *; rw [h, lexAt_blank s a ha hb]
theorem LexInv.tok {s : ByteArray} {a : Nat} {ts : List Tk} {t : Tk} (h : LexInv s a ts) (ha : a < s.size) (hb : blankB s[a] = false) (ht : tokOf (s.extract a (a + Lx.pieceN s a)) = some t) : LexInv s (a + Lx.pieceN s a) (ts ++ [t]) := by
  unfold LexInv at *
  rw [h, lexAt_some s a t ha hb ht]
  cases lexAt s (a + Lx.pieceN s a) <;> simp
theorem LexInv.stop {s : ByteArray} {a : Nat} {ts : List Tk} (h : LexInv s a ts) (ha : a < s.size) (hb : blankB s[a] = false) (ht : tokOf (s.extract a (a + Lx.pieceN s a)) = none) : lexAt s 0 = none := by
  unfold LexInv at *; rw [h, lexAt_none s a ha hb ht]; rfl
theorem LexInv.done {s : ByteArray} {a : Nat} {ts : List Tk} (h : LexInv s a ts) (ha : ¬ a < s.size) : lexAt s 0 = some ts := by
  unfold LexInv at *; rw [h, lexAt_end s a ha]; simp

def lexT (s : ByteArray) : List Tk := if 4096 < s.size then [] else (lexAt s 0).getD []
def lexE (s : ByteArray) : Int := if 4096 < s.size then 2 else if (lexAt s 0).isSome then 0 else 1
theorem lex_long {s : ByteArray} (h : 4096 < s.size) : lexT s = [] ∧ lexE s = 2 := ⟨if_pos h, if_pos h⟩
theorem lex_no {s : ByteArray} (h : ¬ 4096 < s.size) (hn : lexAt s 0 = none) : lexT s = [] ∧ lexE s = 1 := by
  unfold lexT lexE; rw [if_neg h, if_neg h, hn]; exact ⟨rfl, rfl⟩
theorem lex_yes {s : ByteArray} {ts : List Tk} (h : ¬ 4096 < s.size) (hn : lexAt s 0 = some ts) : lexT s = ts ∧ lexE s = 0 := by
  unfold lexT lexE; rw [if_neg h, if_neg h, hn]; exact ⟨rfl, rfl⟩

/- Bytes. -/
theorem sign_plain {c : UInt8} (h : Lx.signB c = true) : Lx.alnB c = false ∧ blankB c = false := by
  unfold Lx.signB at h
  rw [List.contains_iff_mem] at h
  simp only [Lx.signs, List.mem_cons, List.not_mem_nil, or_false] at h
  rcases h with h | h | h | h | h | h | h | h | h | h | h | h | h | h | h | h | h | h | h
  all_goals subst h; exact ⟨rfl, rfl⟩
theorem blank_plain {c : UInt8} (h : blankB c = true) : Lx.alnB c = false ∧ Lx.signB c = false := by
  unfold blankB at h
  simp only [Bool.or_eq_true, beq_iff_eq] at h
  rcases h with h | h
  all_goals subst h; exact ⟨rfl, rfl⟩
theorem aln_plain {c : UInt8} (h : Lx.alnB c = true) : Lx.signB c = false ∧ blankB c = false := by
  constructor
  · cases hs : Lx.signB c with
    | false => rfl
    | true => rw [(sign_plain hs).1] at h; cases h
  · cases hs : blankB c with
    | false => rfl
    | true => rw [(blank_plain hs).1] at h; cases h
theorem piece_data (s : ByteArray) (a n : Nat) : (s.extract a (a + n)).data.toList = (s.data.toList.drop a).take n := by
  rw [Lib.extract_data, show a + n - a = n from by omega]
theorem drop_cons (s : ByteArray) (a : Nat) (h : a < s.size) : s.data.toList.drop a = s[a] :: s.data.toList.drop (a + 1) := by
  rw [List.drop_eq_getElem_cons (by rw [Lx.len_toList]; exact h)]; rfl
theorem run_zero (s : ByteArray) (a : Nat) (h : a < s.size) : Lx.runN s a = 0 ↔ Lx.alnB s[a] = false := by
  unfold Lx.runN Lx.runL
  rw [drop_cons s a h, List.takeWhile_cons]
  cases Lx.alnB s[a] <;> simp
theorem piece_one (s : ByteArray) (a : Nat) (h : a < s.size) : (s.extract a (a + 1)).data.toList = [s[a]] := by
  rw [piece_data, drop_cons s a h]; simp
/- a run of letters and digits is no sign -/
theorem run_no_sign (s : ByteArray) (a : Nat) (h : a < s.size) (hr : 0 < Lx.runN s a) : Lx.signL (s.extract a (a + Lx.runN s a)).data.toList = false := by
  have ha : Lx.alnB s[a] = true := by
    cases hb : Lx.alnB s[a] with
    | true => rfl
    | false => rw [(run_zero s a h).2 hb] at hr; omega
  rw [piece_data, drop_cons s a h]
  obtain ⟨m, hm⟩ : ∃ m, Lx.runN s a = m + 1 := ⟨Lx.runN s a - 1, by omega⟩
  rw [hm, List.take_succ_cons]
  cases hk : List.take m (s.data.toList.drop (a + 1)) with
  | nil => exact (aln_plain ha).1
  | cons x r => rfl
theorem run_aln (s : ByteArray) (a : Nat) (h : a < s.size) (hr : 0 < Lx.runN s a) : blankB s[a] = false ∧ Lx.pieceN s a = Lx.runN s a := by
  have ha : Lx.alnB s[a] = true := by
    cases hb : Lx.alnB s[a] with
    | true => rfl
    | false => rw [(run_zero s a h).2 hb] at hr; omega
  exact ⟨(aln_plain ha).2, Lx.pieceN_of s a _ hr rfl⟩
theorem tok_word (s : ByteArray) (a : Nat) (h : a < s.size) (hr : 0 < Lx.runN s a) (hn : Lx.nameB (s.extract a (a + Lx.runN s a)).data.toList = true) :
    tokOf (s.extract a (a + Lx.pieceN s a)) = some ⟨1, 0, s.extract a (a + Lx.runN s a)⟩ := by
  rw [(run_aln s a h hr).2]; unfold tokOf; rw [run_no_sign s a h hr, hn]; rfl
theorem tok_num (s : ByteArray) (a : Nat) (h : a < s.size) (hr : 0 < Lx.runN s a) (hn : Lx.nameB (s.extract a (a + Lx.runN s a)).data.toList = false) (hk : Lx.numOk (s.extract a (a + Lx.runN s a)).data.toList = true) :
    tokOf (s.extract a (a + Lx.pieceN s a)) = some ⟨2, Lx.valL (s.extract a (a + Lx.runN s a)).data.toList, ⟨#[]⟩⟩ := by
  rw [(run_aln s a h hr).2]; unfold tokOf; rw [run_no_sign s a h hr, hn, hk]; rfl
theorem tok_bad (s : ByteArray) (a : Nat) (h : a < s.size) (hr : 0 < Lx.runN s a) (hn : Lx.nameB (s.extract a (a + Lx.runN s a)).data.toList = false) (hk : Lx.numOk (s.extract a (a + Lx.runN s a)).data.toList = false) :
    tokOf (s.extract a (a + Lx.pieceN s a)) = none := by
  rw [(run_aln s a h hr).2]; unfold tokOf; rw [run_no_sign s a h hr, hn, hk]; rfl
theorem piece_lone (s : ByteArray) (a : Nat) (hr : Lx.runN s a = 0) : Lx.pieceN s a = 1 := by unfold Lx.pieceN; rw [if_pos hr]
theorem tok_sign (s : ByteArray) (a : Nat) (h : a < s.size) (hr : Lx.runN s a = 0) (hs : Lx.signB s[a] = true) :
    tokOf (s.extract a (a + Lx.pieceN s a)) = some ⟨3, 0, s.extract a (a + 1)⟩ := by
  rw [piece_lone s a hr]; unfold tokOf; rw [piece_one s a h]
  have : Lx.signL [s[a]] = true := hs
  rw [this]; rfl
theorem tok_else (s : ByteArray) (a : Nat) (h : a < s.size) (hr : Lx.runN s a = 0) (hs : Lx.signB s[a] = false) :
    tokOf (s.extract a (a + Lx.pieceN s a)) = none := by
  have hal := (run_zero s a h).1 hr
  have hl : Lx.letB s[a] = false := by unfold Lx.alnB at hal; simp at hal; exact hal.1
  have hd : Lx.digB s[a] = false := by unfold Lx.alnB at hal; simp at hal; exact hal.2
  rw [piece_lone s a hr]; unfold tokOf; rw [piece_one s a h]
  have h1 : Lx.signL [s[a]] = false := hs
  have h2 : Lx.nameB [s[a]] = false := by unfold Lx.nameB; simp [Lx.headLet, hl]
  have h3 : Lx.numOk [s[a]] = false := Lx.numOk_nondigit _ (by simp [hd])
  rw [h1, h2, h3]; rfl

/- The cells of tokens. -/
def tkCells (t : Tk) : List Value := [.int .i64 t.kind, .int .i64 t.n, .string t.text]
def cellsOf (ts : List Tk) : List Value := ts.flatMap tkCells
theorem cellsOf_snoc (ts : List Tk) (t : Tk) : cellsOf (ts ++ [t]) = cellsOf ts ++ tkCells t := by simp [cellsOf, List.flatMap_append]
theorem cellsOf_get : ∀ (ts : List Tk) (i : Nat) (h : i < ts.length), (cellsOf ts)[i * 3]? = some (.int .i64 ts[i].kind) ∧ (cellsOf ts)[i * 3 + 1]? = some (.int .i64 ts[i].n) ∧ (cellsOf ts)[i * 3 + 2]? = some (.string ts[i].text)
  | [], i, h => by simp at h
  | t :: r, 0, _ => ⟨rfl, rfl, rfl⟩
  | t :: r, i + 1, h => by
    have ih := cellsOf_get r i (by simpa using h)
    have e : cellsOf (t :: r) = .int .i64 t.kind :: .int .i64 t.n :: .string t.text :: cellsOf r := by simp [cellsOf, tkCells]
    rw [e, show (i + 1) * 3 = i * 3 + 1 + 1 + 1 from by omega]
    simpa using ih
def AllFit (ts : List Tk) : Prop := ∀ i (h : i < ts.length), ts[i].fits
theorem AllFit.nil : AllFit [] := fun i h => by simp at h
theorem AllFit.snoc {ts : List Tk} {t : Tk} (h : AllFit ts) (ht : t.fits) : AllFit (ts ++ [t]) := by
  intro i hi
  by_cases hl : i < ts.length
  · rw [List.getElem_append_left hl]; exact h i hl
  · have : i = ts.length := by simp at hi; omega
    subst this
    simp; exact ht
theorem owned_toks {w : World} {B : Nat} {v : Value} {ts : List Tk} (h : w.ownsRow B 68 3 v ts.length (cellsOf ts)) (hf : AllFit ts) : ∃ a cap, v = .slice a ts.length cap ∧ ToksAt w a ts := by
  obtain ⟨h1, h2⟩ := h
  rcases h2 with ⟨hv, h0⟩ | ⟨g, cap, cur, hv, hg, hc, hn, hm, hsz, htk⟩
  · have : ts = [] := List.eq_nil_of_length_eq_zero h0
    subst this
    exact ⟨none, 0, hv, Or.inl rfl⟩
  · refine ⟨some ⟨g, 0, none⟩, cap, hv, Or.inr ⟨g, 0, rfl, lt_of_heap hc, ?_, ?_, ?_, hf⟩⟩
    all_goals
      intro i hi
      have hx := cellsOf_get ts i hi
      rw [Lib.cell_of_heap hc]
      rw [← htk] at hx
      simp only [List.getElem?_take, Array.getElem?_toList] at hx
      rw [if_pos (by omega), if_pos (by omega), if_pos (by omega)] at hx
      simp only [Nat.zero_add]
    · exact hx.1
    · exact hx.2.1
    · exact hx.2.2

end Go.Proofs.YtcekpobmbmnplaaGreatDoor

namespace Go.Proofs.YtcekpobmbmnplaaGreatDoor
open Go.RowKit

mutual
def EVal (w : World) (A : Nat → Prop) : D → Value → Prop
  | .int n, v => v = .int .i64 n
  | .str s, v => v = .string s ∧ s.size ≤ maxLen
  | .bool b, v => v = .bool b
  | .list n ds, v => ∃ a cap, v = .slice a n cap ∧ (n = 0 ∨ ∃ b off cs, a = some ⟨b, off, none⟩ ∧ A b ∧ b < w.heap.size ∧ CellsIn w b off cs ∧ EVals w A ds cs)
def EVals (w : World) (A : Nat → Prop) : List D → List Value → Prop
  | [], cs => cs = []
  | d :: ds, cs => ∃ v r, cs = v :: r ∧ EVal w A d v ∧ EVals w A ds r
end

mutual
theorem EVal.moves {A A' : Nat → Prop} {w w' : World} (hs : Moves w A w' A') : ∀ (d : D) (v : Value), EVal w A d v → EVal w' A' d v
  | .int _, _, h => h
  | .str _, _, h => h
  | .bool _, _, h => h
  | .list n ds, v, h => by
    unfold EVal at h ⊢
    obtain ⟨a, cap, h1, h4⟩ := h
    refine ⟨a, cap, h1, ?_⟩
    rcases h4 with h4 | ⟨b, off, cs, ha, hl, hb, hc, hx⟩
    · exact Or.inl h4
    · exact Or.inr ⟨b, off, cs, ha, (hs.2 b hb hl).1, Nat.lt_of_lt_of_le hb hs.1, hc.moves hs hl hb, EVals.moves hs ds cs hx⟩
theorem EVals.moves {A A' : Nat → Prop} {w w' : World} (hs : Moves w A w' A') : ∀ (l : List D) (cs : List Value), EVals w A l cs → EVals w' A' l cs
  | [], _, h => h
  | d :: ds, cs, h => by
    unfold EVals at h ⊢
    obtain ⟨v, r, h1, h2, h3⟩ := h
    exact ⟨v, r, h1, EVal.moves hs d v h2, EVals.moves hs ds r h3⟩
end
theorem EVal.one {w : World} {lo : Nat → Prop} : ∀ {d : D} {v : Value}, EVal w lo d v → v.oneCell' = true
  | .int _, _, h => by unfold EVal at h; rw [h]; rfl
  | .str _, _, h => by unfold EVal at h; rw [h.1]; rfl
  | .bool _, _, h => by unfold EVal at h; rw [h]; rfl
  | .list _ _, _, h => by unfold EVal at h; obtain ⟨a, cap, h, _⟩ := h; rw [h]; rfl
theorem EVals.one {w : World} {lo : Nat → Prop} : ∀ {l : List D} {cs : List Value}, EVals w lo l cs → ∀ u ∈ cs, u.oneCell' = true
  | [], _, h => by unfold EVals at h; rw [h]; intro u hu; cases hu
  | d :: ds, cs, h => by
    unfold EVals at h
    obtain ⟨v, r, rfl, h2, h3⟩ := h
    intro u hu
    rcases List.mem_cons.1 hu with rfl | hu
    · exact h2.one
    · exact EVals.one h3 u hu
theorem EVals.len {w : World} {lo : Nat → Prop} : ∀ {l : List D} {cs : List Value}, EVals w lo l cs → cs.length = l.length
  | [], _, h => by unfold EVals at h; rw [h]; rfl
  | d :: ds, cs, h => by
    unfold EVals at h
    obtain ⟨v, r, rfl, h2, h3⟩ := h
    simp [EVals.len h3]
theorem EVals.nil {w : World} {lo : Nat → Prop} : EVals w lo [] [] := by unfold EVals; rfl
theorem EVals.cons {w : World} {lo : Nat → Prop} {d : D} {ds : List D} {v : Value} {cs : List Value} (h : EVal w lo d v) (k : EVals w lo ds cs) : EVals w lo (d :: ds) (v :: cs) := by
  unfold EVals; exact ⟨v, cs, rfl, h, k⟩
theorem EVals.append {w : World} {lo : Nat → Prop} : ∀ {l m : List D} {cs es : List Value}, EVals w lo l cs → EVals w lo m es → EVals w lo (l ++ m) (cs ++ es)
  | [], m, cs, es, h, k => by unfold EVals at h; subst h; exact k
  | d :: ds, m, cs, es, h, k => by
    unfold EVals at h
    obtain ⟨v, r, rfl, h2, h3⟩ := h
    exact EVals.cons h2 (EVals.append h3 k)
theorem EVals.get {w : World} {lo : Nat → Prop} : ∀ {l : List D} {cs : List Value}, EVals w lo l cs → ∀ (j : Nat) (d : D), l[j]? = some d → ∃ v, cs[j]? = some v ∧ EVal w lo d v
  | [], _, _, j, d, hj => by simp at hj
  | e :: ds, cs, h, j, d, hj => by
    unfold EVals at h
    obtain ⟨v, r, rfl, h2, h3⟩ := h
    cases j with
    | zero => simp at hj; subst hj; exact ⟨v, rfl, h2⟩
    | succ j => simpa using EVals.get h3 j d (by simpa using hj)
theorem eint {w : World} {lo : Nat → Prop} {n : Int} : EVal w lo (.int n) (.int .i64 n) := by unfold EVal; rfl
theorem estr {w : World} {lo : Nat → Prop} {s : ByteArray} (h : s.size ≤ maxLen) : EVal w lo (.str s) (.string s) := by unfold EVal; exact ⟨rfl, h⟩
theorem ebool {w : World} {lo : Nat → Prop} {b : Bool} : EVal w lo (.bool b) (.bool b) := by unfold EVal; rfl
theorem enil {w : World} {lo : Nat → Prop} {a : Option Addr} {cap : Nat} : EVal w lo (.list 0 []) (.slice a 0 cap) := by unfold EVal; exact ⟨a, cap, rfl, Or.inl rfl⟩
theorem elist {w : World} {lo : Nat → Prop} {n b off cap : Nat} {ds : List D} {cs : List Value} (hl : lo b) (hb : b < w.heap.size) (hc : CellsIn w b off cs) (hx : EVals w lo ds cs) : EVal w lo (.list n ds) (.slice (some ⟨b, off, none⟩) n cap) := by
  unfold EVal; exact ⟨_, cap, rfl, Or.inr ⟨b, off, cs, rfl, hl, hb, hc, hx⟩⟩
theorem enum_of {w : World} {lo : Nat → Prop} {n : Int} {v : Value} (h : EVal w lo (.int n) v) : v = .int .i64 n := by unfold EVal at h; exact h
theorem estr_of {w : World} {lo : Nat → Prop} {s : ByteArray} {v : Value} (h : EVal w lo (.str s) v) : v = .string s ∧ s.size ≤ maxLen := by unfold EVal at h; exact h
theorem ebool_of {w : World} {lo : Nat → Prop} {b : Bool} {v : Value} (h : EVal w lo (.bool b) v) : v = .bool b := by unfold EVal at h; exact h
/- A list that is empty, or lies at a place. -/
def EAt (w : World) (lo : Nat → Prop) (a : Option Addr) (n : Nat) (ds : List D) : Prop := n = 0 ∨ ∃ b off cs, a = some ⟨b, off, none⟩ ∧ lo b ∧ b < w.heap.size ∧ CellsIn w b off cs ∧ EVals w lo ds cs
theorem elist_of {w : World} {lo : Nat → Prop} {n : Nat} {ds : List D} {v : Value} (h : EVal w lo (.list n ds) v) : ∃ a cap, v = .slice a n cap ∧ EAt w lo a n ds := by unfold EVal at h; exact h
theorem EAt.val {w : World} {lo : Nat → Prop} {n cap : Nat} {a : Option Addr} {ds : List D} (h : EAt w lo a n ds) : EVal w lo (.list n ds) (.slice a n cap) := by unfold EVal; exact ⟨a, cap, rfl, h⟩
theorem EAt.moves {A A' : Nat → Prop} {w w' : World} {n : Nat} {a : Option Addr} {ds : List D} (h : EAt w A a n ds) (hs : Moves w A w' A') : EAt w' A' a n ds := by
  rcases h with h4 | ⟨b, off, cs, ha, hl, hb, hc, hx⟩
  · exact Or.inl h4
  · exact Or.inr ⟨b, off, cs, ha, (hs.2 b hb hl).1, Nat.lt_of_lt_of_le hb hs.1, hc.moves hs hl hb, EVals.moves hs ds cs hx⟩
theorem EAt.of_own {w : World} {A : Nat → Prop} {base n cap : Nat} {a : Option Addr} {e : TypeId} {size : Nat} {ds : List D} {xs : List Value} (h : w.ownsRow base e size (.slice a n cap) n xs) (hl : ∀ b, base ≤ b → A b) (hx : EVals w A ds xs) : EAt w A a n ds := by
  rcases h.2 with ⟨h1, h2⟩ | ⟨g, cap', cur, h1, hb, hg, hn, hc, hs, ht⟩
  · exact Or.inl h2
  · injection h1 with h1 _ _
    refine Or.inr ⟨g, 0, xs, h1, hl g hb, lt_of_heap hg, fun j u hj => ?_, hx⟩
    have := h.cells (g := g) (by rw [h1]; rfl) j u hj
    rw [Nat.zero_add]
    have e : (⟨g, 0, none⟩ : Addr).add j = ⟨g, j, none⟩ := by unfold Addr.add; split <;> simp_all
    rwa [e] at this


/- What is small enough and in range: then it lies there as the other form asks. -/
mutual
def D.fine : D → Prop
  | .int n => (Lit.int .i64 n).wf = true
  | .str _ => True
  | .bool _ => True
  | .list n ds => n ≤ ds.length ∧ ds.length ≤ 17592186044416 ∧ D.fines ds
def D.fines : List D → Prop
  | [] => True
  | d :: ds => d.fine ∧ D.fines ds
end
mutual
theorem EVal.toD {A : Nat → Prop} {w : World} : ∀ (d : D) (v : Value), EVal w A d v → d.fine → DVal w A d v
  | .int _, _, h, k => by unfold EVal at h; unfold D.fine at k; unfold DVal; exact ⟨h, k⟩
  | .str _, _, h, _ => by unfold EVal at h; unfold DVal; exact h
  | .bool _, _, h, _ => by unfold EVal at h; unfold DVal; exact h
  | .list n ds, v, h, k => by
    unfold EVal at h
    unfold D.fine at k
    unfold DVal
    obtain ⟨a, cap, h1, h4⟩ := h
    refine ⟨a, cap, h1, k.1, k.2.1, ?_⟩
    rcases h4 with h4 | ⟨b, off, cs, ha, hl, hb, hc, hx⟩
    · exact Or.inl h4
    · exact Or.inr ⟨b, off, cs, ha, hl, hb, hc, EVals.toD ds cs hx k.2.2⟩
theorem EVals.toD {A : Nat → Prop} {w : World} : ∀ (l : List D) (cs : List Value), EVals w A l cs → D.fines l → DVals w A l cs
  | [], _, h, _ => by unfold EVals at h; unfold DVals; exact h
  | d :: ds, cs, h, k => by
    unfold EVals at h
    unfold D.fines at k
    unfold DVals
    obtain ⟨v, r, h1, h2, h3⟩ := h
    exact ⟨v, r, h1, EVal.toD d v h2 k.1, EVals.toD ds r h3 k.2⟩
end
theorem EAt.toD {A : Nat → Prop} {w : World} {a : Option Addr} {n : Nat} {ds : List D} (h : EAt w A a n ds) (h1 : n ≤ ds.length) (h2 : ds.length ≤ 17592186044416) (k : D.fines ds) : DAt w A a n ds := by
  refine ⟨h1, h2, ?_⟩
  rcases h with h | ⟨b, off, cs, ha, hl, hb, hc, hx⟩
  · exact Or.inl h
  · exact Or.inr ⟨b, off, cs, ha, hl, hb, hc, hx.toD _ _ k⟩
theorem D.fines_append : ∀ {l m : List D}, D.fines l → D.fines m → D.fines (l ++ m)
  | [], _, _, k => k
  | d :: ds, m, h, k => by
    unfold D.fines at h
    show D.fines (d :: (ds ++ m))
    unfold D.fines
    exact ⟨h.1, D.fines_append h.2 k⟩
end Go.Proofs.YtcekpobmbmnplaaGreatDoor
