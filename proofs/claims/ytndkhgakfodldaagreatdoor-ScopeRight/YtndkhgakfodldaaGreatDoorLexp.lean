/-
  What the tokens of a text are, said without the program: piece by piece from the left; and that the document's way to part the text comes to the same pieces.
-/
import Derived.Test.YtndkhgakfodldaaGreatDoorTd
namespace Go.Proofs.YtndkhgakfodldaaGreatDoor
open Go.RowKit

def blankB (c : UInt8) : Bool := c == 32 || c == 10
def lexAt (s : ByteArray) (a : Nat) : Option (List Tk) :=
  if h : a < s.size then
    if blankB s[a] then lexAt s (a + Lx.pieceN s a)
    else match tokOf (s.extract a (a + Lx.pieceN s a)) with
      | none => none
      | some t => (lexAt s (a + Lx.pieceN s a)).map (t :: ·)
  else some []
termination_by s.size - a
decreasing_by
  all_goals have := Lx.pieceN_pos s a; omega

theorem lexAt_end (s : ByteArray) (a : Nat) (h : ¬ a < s.size) : lexAt s a = some [] := by rw [lexAt, dif_neg h]
theorem lexAt_blank (s : ByteArray) (a : Nat) (h : a < s.size) (hb : blankB s[a] = true) : lexAt s a = lexAt s (a + Lx.pieceN s a) := by
  rw [lexAt, dif_pos h, if_pos hb]
theorem lexAt_none (s : ByteArray) (a : Nat) (h : a < s.size) (hb : blankB s[a] = false) (ht : tokOf (s.extract a (a + Lx.pieceN s a)) = none) : lexAt s a = none := by
  rw [lexAt, dif_pos h, if_neg (by simp [hb]), ht]
theorem lexAt_some (s : ByteArray) (a : Nat) (t : Tk) (h : a < s.size) (hb : blankB s[a] = false) (ht : tokOf (s.extract a (a + Lx.pieceN s a)) = some t) : lexAt s a = (lexAt s (a + Lx.pieceN s a)).map (t :: ·) := by
  rw [lexAt, dif_pos h, if_neg (by simp [hb]), ht]

/- What the loops keep: the tokens so far, and what is still to be read. -/
def LexInv (s : ByteArray) (a : Nat) (ts : List Tk) : Prop := lexAt s 0 = (lexAt s a).map (ts ++ ·)
theorem LexInv.start (s : ByteArray) : LexInv s 0 [] := by
  unfold LexInv; cases lexAt s 0 <;> rfl
theorem LexInv.blank {s : ByteArray} {a : Nat} {ts : List Tk} (h : LexInv s a ts) (ha : a < s.size) (hb : blankB s[a] = true) : LexInv s (a + Lx.pieceN s a) ts := by
  unfold LexInv at *; rw [h, lexAt_blank s a ha hb]
theorem LexInv.tok {s : ByteArray} {a : Nat} {ts : List Tk} {t : Tk} (h : LexInv s a ts) (ha : a < s.size) (hb : blankB s[a] = false) (ht : tokOf (s.extract a (a + Lx.pieceN s a)) = some t) : LexInv s (a + Lx.pieceN s a) (ts ++ [t]) := by
  unfold LexInv at *
  rw [h, lexAt_some s a t ha hb ht]
  cases lexAt s (a + Lx.pieceN s a) <;> simp
theorem LexInv.stop {s : ByteArray} {a : Nat} {ts : List Tk} (h : LexInv s a ts) (ha : a < s.size) (hb : blankB s[a] = false) (ht : tokOf (s.extract a (a + Lx.pieceN s a)) = none) : lexAt s 0 = none := by
  unfold LexInv at *; rw [h, lexAt_none s a ha hb ht]; rfl
theorem LexInv.done {s : ByteArray} {a : Nat} {ts : List Tk} (h : LexInv s a ts) (ha : ¬ a < s.size) : lexAt s 0 = some ts := by
  unfold LexInv at *; rw [h, lexAt_end s a ha]; simp

def lexT (s : ByteArray) : List Tk := if 4096 < s.size then [] else (lexAt s 0).getD []
def lexE (s : ByteArray) : Int := if 4096 < s.size then 2 else if (lexAt s 0).isSome then 0 else 1
theorem lex_long {s : ByteArray} (h : 4096 < s.size) : lexT s = [] ∧ lexE s = 2 := ⟨if_pos h, if_pos h⟩
theorem lex_no {s : ByteArray} (h : ¬ 4096 < s.size) (hn : lexAt s 0 = none) : lexT s = [] ∧ lexE s = 1 := by
  unfold lexT lexE; rw [if_neg h, if_neg h, hn]; exact ⟨rfl, rfl⟩
theorem lex_yes {s : ByteArray} {ts : List Tk} (h : ¬ 4096 < s.size) (hn : lexAt s 0 = some ts) : lexT s = ts ∧ lexE s = 0 := by
  unfold lexT lexE; rw [if_neg h, if_neg h, hn]; exact ⟨rfl, rfl⟩

/- Bytes. -/
theorem piece_data (s : ByteArray) (a n : Nat) : (s.extract a (a + n)).data.toList = (s.data.toList.drop a).take n := by
  rw [Lib.extract_data, show a + n - a = n from by omega]
theorem drop_cons (s : ByteArray) (a : Nat) (h : a < s.size) : s.data.toList.drop a = s[a] :: s.data.toList.drop (a + 1) := by
  rw [List.drop_eq_getElem_cons (by rw [Lx.len_toList]; exact h)]; rfl
/- a run of letters and digits is no sign -/
/- The cells of tokens. -/
def tkCells (t : Tk) : List Value := [.int .i64 t.kind, .int .i64 t.n, .string t.text]
def cellsOf (ts : List Tk) : List Value := ts.flatMap tkCells
theorem cellsOf_snoc (ts : List Tk) (t : Tk) : cellsOf (ts ++ [t]) = cellsOf ts ++ tkCells t := by simp [cellsOf, List.flatMap_append]
theorem cellsOf_get : ∀ (ts : List Tk) (i : Nat) (h : i < ts.length), (cellsOf ts)[i * 3]? = some (.int .i64 ts[i].kind) ∧ (cellsOf ts)[i * 3 + 1]? = some (.int .i64 ts[i].n) ∧ (cellsOf ts)[i * 3 + 2]? = some (.string ts[i].text)
  | [], i, h => by simp at h
  | t :: r, 0, _ => ⟨rfl, rfl, rfl⟩
  | t :: r, i + 1, h => by
    have ih := cellsOf_get r i (by simpa using h)
    have e : cellsOf (t :: r) = .int .i64 t.kind :: .int .i64 t.n :: .string t.text :: cellsOf r := by simp [cellsOf, tkCells]
    rw [e, show (i + 1) * 3 = i * 3 + 1 + 1 + 1 from by omega]
    simpa using ih
def AllFit (ts : List Tk) : Prop := ∀ i (h : i < ts.length), ts[i].fits
theorem AllFit.nil : AllFit [] := fun i h => by simp at h
theorem AllFit.snoc {ts : List Tk} {t : Tk} (h : AllFit ts) (ht : t.fits) : AllFit (ts ++ [t]) := by
  intro i hi
  by_cases hl : i < ts.length
  · rw [List.getElem_append_left hl]; exact h i hl
  · have : i = ts.length := by simp at hi; omega
    subst this
    simp; exact ht
theorem owned_toks {w : World} {B : Nat} {v : Value} {ts : List Tk} (h : w.ownsRow B 184 3 v ts.length (cellsOf ts)) (hf : AllFit ts) : ∃ a cap, v = .slice a ts.length cap ∧ ToksAt w a ts := by
  obtain ⟨h1, h2⟩ := h
  rcases h2 with ⟨hv, h0⟩ | ⟨g, cap, cur, hv, hg, hc, hn, hm, hsz, htk⟩
  · have : ts = [] := List.eq_nil_of_length_eq_zero h0
    subst this
    exact ⟨none, 0, hv, Or.inl rfl⟩
  · refine ⟨some ⟨g, 0, none⟩, cap, hv, Or.inr ⟨g, 0, rfl, lt_of_heap hc, ?_, ?_, ?_, hf⟩⟩
    all_goals
      intro i hi
      have hx := cellsOf_get ts i hi
      rw [Lib.cell_of_heap hc]
      rw [← htk] at hx
      simp only [List.getElem?_take, Array.getElem?_toList] at hx
      rw [if_pos (by omega), if_pos (by omega), if_pos (by omega)] at hx
      simp only [Nat.zero_add]
    · exact hx.1
    · exact hx.2.1
    · exact hx.2.2

end Go.Proofs.YtndkhgakfodldaaGreatDoor

namespace Go.Proofs.YtndkhgakfodldaaGreatDoor
open Go.RowKit

mutual
def EVal (w : World) (A : Nat → Prop) : D → Value → Prop
  | .int n, v => v = .int .i64 n
  | .str s, v => v = .string s ∧ s.size ≤ maxLen
  | .bool b, v => v = .bool b
  | .list n ds, v => ∃ a cap, v = .slice a n cap ∧ (n = 0 ∨ ∃ b off cs, a = some ⟨b, off, none⟩ ∧ A b ∧ b < w.heap.size ∧ CellsIn w b off cs ∧ EVals w A ds cs)
def EVals (w : World) (A : Nat → Prop) : List D → List Value → Prop
  | [], cs => cs = []
  | d :: ds, cs => ∃ v r, cs = v :: r ∧ EVal w A d v ∧ EVals w A ds r
end

mutual
theorem EVal.moves {A A' : Nat → Prop} {w w' : World} (hs : Moves w A w' A') : ∀ (d : D) (v : Value), EVal w A d v → EVal w' A' d v
  | .int _, _, h => h
  | .str _, _, h => h
  | .bool _, _, h => h
  | .list n ds, v, h => by
    unfold EVal at h ⊢
    obtain ⟨a, cap, h1, h4⟩ := h
    refine ⟨a, cap, h1, ?_⟩
    rcases h4 with h4 | ⟨b, off, cs, ha, hl, hb, hc, hx⟩
    · exact Or.inl h4
    · exact Or.inr ⟨b, off, cs, ha, (hs.2 b hb hl).1, Nat.lt_of_lt_of_le hb hs.1, hc.moves hs hl hb, EVals.moves hs ds cs hx⟩
theorem EVals.moves {A A' : Nat → Prop} {w w' : World} (hs : Moves w A w' A') : ∀ (l : List D) (cs : List Value), EVals w A l cs → EVals w' A' l cs
  | [], _, h => h
  | d :: ds, cs, h => by
    unfold EVals at h ⊢
    obtain ⟨v, r, h1, h2, h3⟩ := h
    exact ⟨v, r, h1, EVal.moves hs d v h2, EVals.moves hs ds r h3⟩
end
theorem EVal.one {w : World} {lo : Nat → Prop} : ∀ {d : D} {v : Value}, EVal w lo d v → v.oneCell' = true
  | .int _, _, h => by unfold EVal at h; rw [h]; rfl
  | .str _, _, h => by unfold EVal at h; rw [h.1]; rfl
  | .bool _, _, h => by unfold EVal at h; rw [h]; rfl
  | .list _ _, _, h => by unfold EVal at h; obtain ⟨a, cap, h, _⟩ := h; rw [h]; rfl
theorem EVals.one {w : World} {lo : Nat → Prop} : ∀ {l : List D} {cs : List Value}, EVals w lo l cs → ∀ u ∈ cs, u.oneCell' = true
  | [], _, h => by unfold EVals at h; rw [h]; intro u hu; cases hu
  | d :: ds, cs, h => by
    unfold EVals at h
    obtain ⟨v, r, rfl, h2, h3⟩ := h
    intro u hu
    rcases List.mem_cons.1 hu with rfl | hu
    · exact h2.one
    · exact EVals.one h3 u hu
theorem EVals.len {w : World} {lo : Nat → Prop} : ∀ {l : List D} {cs : List Value}, EVals w lo l cs → cs.length = l.length
  | [], _, h => by unfold EVals at h; rw [h]; rfl
  | d :: ds, cs, h => by
    unfold EVals at h
    obtain ⟨v, r, rfl, h2, h3⟩ := h
    simp [EVals.len h3]
theorem EVals.nil {w : World} {lo : Nat → Prop} : EVals w lo [] [] := by unfold EVals; rfl
theorem EVals.cons {w : World} {lo : Nat → Prop} {d : D} {ds : List D} {v : Value} {cs : List Value} (h : EVal w lo d v) (k : EVals w lo ds cs) : EVals w lo (d :: ds) (v :: cs) := by
  unfold EVals; exact ⟨v, cs, rfl, h, k⟩
theorem EVals.append {w : World} {lo : Nat → Prop} : ∀ {l m : List D} {cs es : List Value}, EVals w lo l cs → EVals w lo m es → EVals w lo (l ++ m) (cs ++ es)
  | [], m, cs, es, h, k => by unfold EVals at h; subst h; exact k
  | d :: ds, m, cs, es, h, k => by
    unfold EVals at h
    obtain ⟨v, r, rfl, h2, h3⟩ := h
    exact EVals.cons h2 (EVals.append h3 k)
theorem EVals.get {w : World} {lo : Nat → Prop} : ∀ {l : List D} {cs : List Value}, EVals w lo l cs → ∀ (j : Nat) (d : D), l[j]? = some d → ∃ v, cs[j]? = some v ∧ EVal w lo d v
  | [], _, _, j, d, hj => by simp at hj
  | e :: ds, cs, h, j, d, hj => by
    unfold EVals at h
    obtain ⟨v, r, rfl, h2, h3⟩ := h
    cases j with
    | zero => simp at hj; subst hj; exact ⟨v, rfl, h2⟩
    | succ j => simpa using EVals.get h3 j d (by simpa using hj)
theorem eint {w : World} {lo : Nat → Prop} {n : Int} : EVal w lo (.int n) (.int .i64 n) := by unfold EVal; rfl
theorem estr {w : World} {lo : Nat → Prop} {s : ByteArray} (h : s.size ≤ maxLen) : EVal w lo (.str s) (.string s) := by unfold EVal; exact ⟨rfl, h⟩
theorem ebool {w : World} {lo : Nat → Prop} {b : Bool} : EVal w lo (.bool b) (.bool b) := by unfold EVal; rfl
theorem enum_of {w : World} {lo : Nat → Prop} {n : Int} {v : Value} (h : EVal w lo (.int n) v) : v = .int .i64 n := by unfold EVal at h; exact h
theorem estr_of {w : World} {lo : Nat → Prop} {s : ByteArray} {v : Value} (h : EVal w lo (.str s) v) : v = .string s ∧ s.size ≤ maxLen := by unfold EVal at h; exact h
/- A list that is empty, or lies at a place. -/
def EAt (w : World) (lo : Nat → Prop) (a : Option Addr) (n : Nat) (ds : List D) : Prop := n = 0 ∨ ∃ b off cs, a = some ⟨b, off, none⟩ ∧ lo b ∧ b < w.heap.size ∧ CellsIn w b off cs ∧ EVals w lo ds cs
theorem EAt.val {w : World} {lo : Nat → Prop} {n cap : Nat} {a : Option Addr} {ds : List D} (h : EAt w lo a n ds) : EVal w lo (.list n ds) (.slice a n cap) := by unfold EVal; exact ⟨a, cap, rfl, h⟩
theorem EAt.moves {A A' : Nat → Prop} {w w' : World} {n : Nat} {a : Option Addr} {ds : List D} (h : EAt w A a n ds) (hs : Moves w A w' A') : EAt w' A' a n ds := by
  rcases h with h4 | ⟨b, off, cs, ha, hl, hb, hc, hx⟩
  · exact Or.inl h4
  · exact Or.inr ⟨b, off, cs, ha, (hs.2 b hb hl).1, Nat.lt_of_lt_of_le hb hs.1, hc.moves hs hl hb, EVals.moves hs ds cs hx⟩
theorem EAt.of_own {w : World} {A : Nat → Prop} {base n cap : Nat} {a : Option Addr} {e : TypeId} {size : Nat} {ds : List D} {xs : List Value} (h : w.ownsRow base e size (.slice a n cap) n xs) (hl : ∀ b, base ≤ b → A b) (hx : EVals w A ds xs) : EAt w A a n ds := by
  rcases h.2 with ⟨h1, h2⟩ | ⟨g, cap', cur, h1, hb, hg, hn, hc, hs, ht⟩
  · exact Or.inl h2
  · injection h1 with h1 _ _
    refine Or.inr ⟨g, 0, xs, h1, hl g hb, lt_of_heap hg, fun j u hj => ?_, hx⟩
    have := h.cells (g := g) (by rw [h1]; rfl) j u hj
    rw [Nat.zero_add]
    have e : (⟨g, 0, none⟩ : Addr).add j = ⟨g, j, none⟩ := by unfold Addr.add; split <;> simp_all
    rwa [e] at this


/- What is small enough and in range: then it lies there as the other form asks. -/
mutual
def D.fine : D → Prop
  | .int n => (Lit.int .i64 n).wf = true
  | .str _ => True
  | .bool _ => True
  | .list n ds => n ≤ ds.length ∧ ds.length ≤ 17592186044416 ∧ D.fines ds
def D.fines : List D → Prop
  | [] => True
  | d :: ds => d.fine ∧ D.fines ds
end
mutual
theorem EVal.toD {A : Nat → Prop} {w : World} : ∀ (d : D) (v : Value), EVal w A d v → d.fine → DVal w A d v
  | .int _, _, h, k => by unfold EVal at h; unfold D.fine at k; unfold DVal; exact ⟨h, k⟩
  | .str _, _, h, _ => by unfold EVal at h; unfold DVal; exact h
  | .bool _, _, h, _ => by unfold EVal at h; unfold DVal; exact h
  | .list n ds, v, h, k => by
    unfold EVal at h
    unfold D.fine at k
    unfold DVal
    obtain ⟨a, cap, h1, h4⟩ := h
    refine ⟨a, cap, h1, k.1, k.2.1, ?_⟩
    rcases h4 with h4 | ⟨b, off, cs, ha, hl, hb, hc, hx⟩
    · exact Or.inl h4
    · exact Or.inr ⟨b, off, cs, ha, hl, hb, hc, EVals.toD ds cs hx k.2.2⟩
theorem EVals.toD {A : Nat → Prop} {w : World} : ∀ (l : List D) (cs : List Value), EVals w A l cs → D.fines l → DVals w A l cs
  | [], _, h, _ => by unfold EVals at h; unfold DVals; exact h
  | d :: ds, cs, h, k => by
    unfold EVals at h
    unfold D.fines at k
    unfold DVals
    obtain ⟨v, r, h1, h2, h3⟩ := h
    exact ⟨v, r, h1, EVal.toD d v h2 k.1, EVals.toD ds r h3 k.2⟩
end
theorem EAt.toD {A : Nat → Prop} {w : World} {a : Option Addr} {n : Nat} {ds : List D} (h : EAt w A a n ds) (h1 : n ≤ ds.length) (h2 : ds.length ≤ 17592186044416) (k : D.fines ds) : DAt w A a n ds := by
  refine ⟨h1, h2, ?_⟩
  rcases h with h | ⟨b, off, cs, ha, hl, hb, hc, hx⟩
  · exact Or.inl h
  · exact Or.inr ⟨b, off, cs, ha, hl, hb, hc, hx.toD _ _ k⟩
theorem D.fines_append : ∀ {l m : List D}, D.fines l → D.fines m → D.fines (l ++ m)
  | [], _, _, k => k
  | d :: ds, m, h, k => by
    unfold D.fines at h
    show D.fines (d :: (ds ++ m))
    unfold D.fines
    exact ⟨h.1, D.fines_append h.2 k⟩
end Go.Proofs.YtndkhgakfodldaaGreatDoor

namespace Go.Proofs.YtndkhgakfodldaaGreatDoor
open Go.RowKit

/- Expressions and statements whose names are resolved. -/
inductive Nd where
  | mk (op n m at_ : Int) (args : List Nd)
def Nd.op : Nd → Int | .mk op _ _ _ _ => op
def Nd.n : Nd → Int | .mk _ n _ _ _ => n
def Nd.m : Nd → Int | .mk _ _ m _ _ => m
def Nd.at_ : Nd → Int | .mk _ _ _ a _ => a
def Nd.args : Nd → List Nd | .mk _ _ _ _ l => l
inductive Ac where
  | mk (op n m at_ : Int) (args : List Nd) (body other : List Ac)
def Ac.op : Ac → Int | .mk op _ _ _ _ _ _ => op
def Ac.n : Ac → Int | .mk _ n _ _ _ _ _ => n
def Ac.m : Ac → Int | .mk _ _ m _ _ _ _ => m
def Ac.at_ : Ac → Int | .mk _ _ _ a _ _ _ => a
def Ac.args : Ac → List Nd | .mk _ _ _ _ l _ _ => l
def Ac.body : Ac → List Ac | .mk _ _ _ _ _ l _ => l
def Ac.other : Ac → List Ac | .mk _ _ _ _ _ _ l => l
mutual
def Nd.ds : Nd → List D
  | .mk op n m a args => [.int op, .int n, .int m, .int a, .list args.length (ndsD args)]
def ndsD : List Nd → List D
  | [] => []
  | x :: r => x.ds ++ ndsD r
end
mutual
def Ac.ds : Ac → List D
  | .mk op n m a args body other => [.int op, .int n, .int m, .int a, .list args.length (ndsD args), .list body.length (acsD body), .list other.length (acsD other)]
def acsD : List Ac → List D
  | [] => []
  | x :: r => x.ds ++ acsD r
end
theorem Nd.ds_len (x : Nd) : x.ds.length = 5 := by cases x; unfold Nd.ds; rfl
theorem Ac.ds_len (x : Ac) : x.ds.length = 7 := by cases x; unfold Ac.ds; rfl
theorem ndsD_append : ∀ (l m : List Nd), ndsD (l ++ m) = ndsD l ++ ndsD m
  | [], m => by simp [ndsD]
  | x :: r, m => by simp [ndsD, ndsD_append r m]
theorem acsD_append : ∀ (l m : List Ac), acsD (l ++ m) = acsD l ++ acsD m
  | [], m => by simp [acsD]
  | x :: r, m => by simp [acsD, acsD_append r m]
theorem ndsD_one (x : Nd) : ndsD [x] = x.ds := by simp [ndsD]
theorem acsD_one (x : Ac) : acsD [x] = x.ds := by simp [acsD]
structure Pt where
  params : Int
  locals : Int
  body : List Ac
def Pt.ds (p : Pt) : List D := [.int p.params, .int p.locals, .list p.body.length (acsD p.body)]
def ptsD (l : List Pt) : List D := l.flatMap Pt.ds
structure Un where
  name : ByteArray
  uses : List ByteArray
  data : Int
  parts : List Pt
  main : List Ac

/- What names stand for. -/
structure Mg where
  kind : Int
  n : Int
  m : Int
  at_ : Int
def mg0 : Mg := ⟨0, 0, 0, 0⟩
abbrev Kn := ByteArray → ByteArray → Option Mg
abbrev Lc := ByteArray → Option Int
def lookM (K : Kn) (L : Lc) (mod name : ByteArray) : Option Mg :=
  if mod.size = 0 then (match L name with | some a => some ⟨0, 0, 0, a⟩ | none => K mod name) else K mod name
def findM (K : Kn) (L : Lc) (mod name : ByteArray) (ks : List Int) : Mg × Int :=
  match lookM K L mod name with
  | none => (mg0, 5)
  | some x => if ks.contains x.kind then (x, 0) else (mg0, 7)
def routM (K : Kn) (L : Lc) (mod name : ByteArray) (handed : Int) : Mg × Int :=
  if (findM K L mod name [4]).2 = 0 ∧ (findM K L mod name [4]).1.n ≠ handed then (mg0, 8) else findM K L mod name [4]
/- Of an expression, of a statement, without what lies in it: Op, N, M, At, and the error. -/
structure Al where
  op : Int
  n : Int
  m : Int
  at_ : Int
  err : Int
def valM (K : Kn) (L : Lc) (mod name : ByteArray) : Al :=
  if (findM K L mod name [0, 1, 2]).2 ≠ 0 then ⟨0, 0, 0, 0, (findM K L mod name [0, 1, 2]).2⟩
  else if (findM K L mod name [0, 1, 2]).1.kind = 1 then ⟨1, (findM K L mod name [0, 1, 2]).1.n, 0, 0, 0⟩
  else if (findM K L mod name [0, 1, 2]).1.kind = 2 then ⟨3, 0, (findM K L mod name [0, 1, 2]).1.m, (findM K L mod name [0, 1, 2]).1.at_, 0⟩
  else ⟨16, 0, 0, (findM K L mod name [0, 1, 2]).1.at_, 0⟩
def ndM (K : Kn) (L : Lc) (x : Ex) : Al :=
  if x.op = 3 then valM K L x.mod x.name
  else if x.op = 4 then ⟨4, (findM K L x.mod x.name [3]).1.n, (findM K L x.mod x.name [3]).1.m, (findM K L x.mod x.name [3]).1.at_, (findM K L x.mod x.name [3]).2⟩
  else if x.op = 5 then ⟨5, 0, (routM K L x.mod x.name x.args.length).1.m, (routM K L x.mod x.name x.args.length).1.at_, (routM K L x.mod x.name x.args.length).2⟩
  else ⟨x.op, x.n, 0, 0, 0⟩
def acM (K : Kn) (L : Lc) (s : St) : Al :=
  if s.op = 1 then ⟨1, 0, if (findM K L s.mod s.name [0, 2]).1.kind = 0 then -1 else (findM K L s.mod s.name [0, 2]).1.m, (findM K L s.mod s.name [0, 2]).1.at_, (findM K L s.mod s.name [0, 2]).2⟩
  else if s.op = 2 then ⟨2, (findM K L s.mod s.name [3]).1.n, (findM K L s.mod s.name [3]).1.m, (findM K L s.mod s.name [3]).1.at_, (findM K L s.mod s.name [3]).2⟩
  else if s.op = 3 then ⟨3, 0, (routM K L s.mod s.name s.args.length).1.m, (routM K L s.mod s.name s.args.length).1.at_, (routM K L s.mod s.name s.args.length).2⟩
  else ⟨s.op, 0, 0, 0, 0⟩
def bindE {α β : Type} : Except Int α → (α → Except Int β) → Except Int β
  | .error e, _ => .error e
  | .ok a, f => f a
def alE (a : Al) : Except Int Al := if a.err = 0 then .ok a else .error a.err
mutual
def rsE (K : Kn) (L : Lc) : Ex → Except Int Nd
  | .mk op n mod name args => bindE (alE (ndM K L (.mk op n mod name args))) fun h => bindE (rsEs K L args) fun l => .ok (.mk h.op h.n h.m h.at_ l)
def rsEs (K : Kn) (L : Lc) : List Ex → Except Int (List Nd)
  | [] => .ok []
  | x :: r => bindE (rsE K L x) fun y => bindE (rsEs K L r) fun l => .ok (y :: l)
end
mutual
def rsS (K : Kn) (L : Lc) : St → Except Int Ac
  | .mk op mod name args body other => bindE (alE (acM K L (.mk op mod name args body other))) fun h => bindE (rsEs K L args) fun l => bindE (rsSs K L body) fun b => bindE (rsSs K L other) fun o => .ok (.mk h.op h.n h.m h.at_ l b o)
def rsSs (K : Kn) (L : Lc) : List St → Except Int (List Ac)
  | [] => .ok []
  | x :: r => bindE (rsS K L x) fun y => bindE (rsSs K L r) fun l => .ok (y :: l)
end
theorem bindE_ok {α : Type} (x : Except Int α) : bindE x .ok = x := by cases x <;> rfl
/- A list whose head part is resolved. -/
theorem rsEs_app (K : Kn) (L : Lc) : ∀ (a b : List Ex) (acc : List Nd), rsEs K L a = .ok acc → rsEs K L (a ++ b) = bindE (rsEs K L b) fun l => .ok (acc ++ l)
  | [], b, acc, h => by
    rw [rsEs] at h
    obtain rfl := Except.ok.inj h
    show rsEs K L b = _
    exact (bindE_ok _).symm
  | x :: a, b, acc, h => by
    rw [rsEs] at h
    show rsEs K L (x :: (a ++ b)) = _
    rw [rsEs]
    cases hx : rsE K L x with
    | error e => rw [hx] at h; cases h
    | ok y =>
      rw [hx] at h
      simp only [bindE] at h ⊢
      cases ha : rsEs K L a with
      | error e => rw [ha] at h; cases h
      | ok l =>
        rw [ha] at h
        obtain rfl := Except.ok.inj h
        rw [rsEs_app K L a b l ha]
        cases rsEs K L b <;> rfl
theorem rsSs_app (K : Kn) (L : Lc) : ∀ (a b : List St) (acc : List Ac), rsSs K L a = .ok acc → rsSs K L (a ++ b) = bindE (rsSs K L b) fun l => .ok (acc ++ l)
  | [], b, acc, h => by
    rw [rsSs] at h
    obtain rfl := Except.ok.inj h
    show rsSs K L b = _
    exact (bindE_ok _).symm
  | x :: a, b, acc, h => by
    rw [rsSs] at h
    show rsSs K L (x :: (a ++ b)) = _
    rw [rsSs]
    cases hx : rsS K L x with
    | error e => rw [hx] at h; cases h
    | ok y =>
      rw [hx] at h
      simp only [bindE] at h ⊢
      cases ha : rsSs K L a with
      | error e => rw [ha] at h; cases h
      | ok l =>
        rw [ha] at h
        obtain rfl := Except.ok.inj h
        rw [rsSs_app K L a b l ha]
        cases rsSs K L b <;> rfl
theorem split_at {α : Type} (l : List α) (j : Nat) (h : j < l.length) : l = l.take j ++ l[j] :: l.drop (j + 1) := by
  rw [List.getElem_cons_drop, List.take_append_drop]
theorem rsEs_err {K : Kn} {L : Lc} {l : List Ex} {j : Nat} {acc : List Nd} {e : Int} (h : j < l.length) (ha : rsEs K L (l.take j) = .ok acc) (he : rsE K L l[j] = .error e) : rsEs K L l = .error e := by
  rw [split_at l j h, rsEs_app K L _ _ acc ha, rsEs, he]; rfl
theorem rsEs_snoc {K : Kn} {L : Lc} {l : List Ex} {j : Nat} {acc : List Nd} {y : Nd} (h : j < l.length) (ha : rsEs K L (l.take j) = .ok acc) (he : rsE K L l[j] = .ok y) : rsEs K L (l.take (j + 1)) = .ok (acc ++ [y]) := by
  rw [List.take_succ_eq_append_getElem h, rsEs_app K L _ _ acc ha, rsEs, he]; rfl
theorem rsSs_err {K : Kn} {L : Lc} {l : List St} {j : Nat} {acc : List Ac} {e : Int} (h : j < l.length) (ha : rsSs K L (l.take j) = .ok acc) (he : rsS K L l[j] = .error e) : rsSs K L l = .error e := by
  rw [split_at l j h, rsSs_app K L _ _ acc ha, rsSs, he]; rfl
theorem rsSs_snoc {K : Kn} {L : Lc} {l : List St} {j : Nat} {acc : List Ac} {y : Ac} (h : j < l.length) (ha : rsSs K L (l.take j) = .ok acc) (he : rsS K L l[j] = .ok y) : rsSs K L (l.take (j + 1)) = .ok (acc ++ [y]) := by
  rw [List.take_succ_eq_append_getElem h, rsSs_app K L _ _ acc ha, rsSs, he]; rfl
theorem rsE_eq (K : Kn) (L : Lc) (x : Ex) : rsE K L x = bindE (alE (ndM K L x)) fun h => bindE (rsEs K L x.args) fun l => .ok (.mk h.op h.n h.m h.at_ l) := by
  obtain ⟨op, n, mod, name, args⟩ := x; rw [rsE]; rfl
theorem rsS_eq (K : Kn) (L : Lc) (x : St) : rsS K L x = bindE (alE (acM K L x)) fun h => bindE (rsEs K L x.args) fun l => bindE (rsSs K L x.body) fun b => bindE (rsSs K L x.other) fun o => .ok (.mk h.op h.n h.m h.at_ l b o) := by
  obtain ⟨op, mod, name, args, body, other⟩ := x; rw [rsS]; rfl
end Go.Proofs.YtndkhgakfodldaaGreatDoor

namespace Go.Proofs.YtndkhgakfodldaaGreatDoor
open Go.RowKit

/- What an operation has. -/
structure Sh where
  named : Bool
  number : Bool
  least : Int
  most : Int
  body : Bool
  other : Bool
def Sh.val (s : Sh) : Value := .agg #[.bool s.named, .bool s.number, .int .i64 s.least, .int .i64 s.most, .bool s.body, .bool s.other]
def sh0 : Sh := ⟨false, false, 0, 0, false, false⟩
def exSh (op : Int) : Option Sh :=
  if op = 1 then some ⟨false, true, 0, 0, false, false⟩ else if op = 2 then some sh0 else if op = 3 then some ⟨true, false, 0, 0, false, false⟩
  else if op = 4 then some ⟨true, false, 1, 1, false, false⟩ else if op = 5 then some ⟨true, false, 0, 3, false, false⟩ else if op = 6 then some ⟨false, false, 1, 1, false, false⟩
  else if 7 ≤ op ∧ op ≤ 15 then some ⟨false, false, 2, 2, false, false⟩ else none
def stSh (op : Int) : Option Sh :=
  if op = 1 then some ⟨true, false, 1, 1, false, false⟩ else if op = 2 then some ⟨true, false, 2, 2, false, false⟩ else if op = 3 then some ⟨true, false, 0, 3, false, false⟩
  else if op = 4 then some ⟨false, false, 1, 1, true, true⟩ else if op = 5 then some ⟨false, false, 1, 1, true, false⟩ else if op = 6 then some ⟨false, false, 1, 1, false, false⟩
  else if op = 7 then some ⟨false, false, 1, 1, false, false⟩ else none
def exB (op : Int) : Bool := (exSh op).isSome
def stB (op : Int) : Bool := (stSh op).isSome
def exS (op : Int) : Sh := (exSh op).getD sh0
def stS (op : Int) : Sh := (stSh op).getD sh0

def kept : List (List UInt8) := [[109, 111, 100, 117, 108, 101], [117, 115, 101], [112, 117, 98], [99, 111, 110, 115, 116], [118, 97, 114], [97, 114, 114, 97, 121], [112, 114, 111, 99], [108, 111, 99, 97, 108], [109, 97, 105, 110],
  [105, 102], [101, 108, 115, 101], [119, 104, 105, 108, 101], [114, 101, 116, 117, 114, 110], [111, 117, 116], [105, 110]]
def keptB (s : ByteArray) : Bool := kept.contains s.data.toList
def nameOk (s : ByteArray) : Bool := !keptB s && Lx.nameB s.data.toList
def numOkB (n : Int) : Bool := decide (0 ≤ n) && decide (n ≤ 1099511627775)
def refOk (h : Sh) (mod name : ByteArray) : Bool := if h.named then nameOk name && (decide (mod.size = 0) || nameOk mod) else decide (mod.size = 0) && decide (name.size = 0)
def nOk (h : Sh) (n : Int) : Bool := if h.number then numOkB n else decide (n = 0)
def countOk (h : Sh) (k : Nat) : Bool := decide (h.least ≤ (k : Int)) && decide ((k : Int) ≤ h.most)

/- Kinds: k is how deep it may yet go. -/
def exKinds : Nat → List Ex → Bool
  | 0, _ => true
  | k + 1, l => l.all (fun x => exB x.op && exKinds k x.args)
def stKinds : Nat → List St → Bool
  | 0, _ => true
  | k + 1, l => l.all (fun s => stB s.op && (exKinds 6 s.args && (stKinds k s.body && stKinds k s.other)))
/- Too many, or too deep. -/
def exMany : Nat → List Ex → Bool
  | 0, l => decide (0 < l.length)
  | k + 1, l => decide (3 < l.length) || l.any (fun x => exMany k x.args)
def stMany : Nat → List St → Bool
  | 0, _ => true
  | k + 1, l => decide (10 < l.length) || l.any (fun s => exMany 6 s.args || (((stS s.op).body || decide (0 < s.body.length)) && stMany k s.body || (decide (0 < s.other.length) && stMany k s.other)))
/- Forms. -/
def exForm : Nat → List Ex → Bool
  | 0, _ => true
  | k + 1, l => l.all (fun x => refOk (exS x.op) x.mod x.name && (nOk (exS x.op) x.n && (countOk (exS x.op) x.args.length && exForm k x.args)))
def stForm : Nat → List St → Bool
  | 0, _ => true
  | k + 1, l => l.all (fun s => refOk (stS s.op) s.mod s.name && (countOk (stS s.op) s.args.length && (exForm 6 s.args && (((stS s.op).body || decide (s.body.length = 0)) && (((stS s.op).other || decide (s.other.length = 0)) && (stForm k s.body && stForm k s.other))))))
def sizeOk (d : De) : Bool := if d.kind = 1 then numOkB d.n else if d.kind = 3 then decide (1 ≤ d.n) && decide (d.n ≤ 32) else decide (d.n = 0)

def Mo.bodies (m : Mo) : List (List St) := m.procs.map Pr.body ++ [m.main]
def Mo.kinds (m : Mo) : Bool := m.decls.all (fun d => decide (1 ≤ d.kind) && decide (d.kind ≤ 3)) && m.bodies.all (stKinds 6)
def Mo.many (m : Mo) : Bool := decide (3 < m.uses.length) || (decide (10 < m.decls.length) || (decide (6 < m.procs.length) || (m.procs.any (fun p => decide (3 < p.params.length) || decide (4 < p.locals.length)) || m.bodies.any (stMany 6))))
def Mo.form (m : Mo) : Bool := nameOk m.name && (m.uses.all nameOk && (m.decls.all (fun d => nameOk d.name && sizeOk d) && (m.procs.all (fun p => nameOk p.name && (p.params.all nameOk && p.locals.all nameOk)) && m.bodies.all (stForm 6))))
def Mo.err (m : Mo) : Int := if m.kinds then (if m.many then 2 else (if m.form then 0 else 1)) else 4

theorem any_snoc {α : Type} (ts : List α) (p : α → Bool) (k : Nat) (h : k < ts.length) : (ts.take (k + 1)).any p = ((ts.take k).any p || p ts[k]) := by
  rw [List.take_succ_eq_append_getElem h, List.any_append]; simp
theorem any_at {α : Type} (ts : List α) (p : α → Bool) (k : Nat) (h : k < ts.length) (hp : p ts[k] = true) : ts.any p = true := by
  rw [List.any_eq_true]; exact ⟨ts[k], List.getElem_mem _, hp⟩
theorem all_end {α : Type} {ts : List α} {p : α → Bool} {k : Nat} (h : (ts.take k).all p = true) (hk : ¬ k < ts.length) : ts.all p = true := by
  rw [List.take_of_length_le (by omega)] at h; exact h
theorem any_end {α : Type} {ts : List α} {p : α → Bool} {k : Nat} (h : (ts.take k).any p = false) (hk : ¬ k < ts.length) : ts.any p = false := by
  rw [List.take_of_length_le (by omega)] at h; exact h
end Go.Proofs.YtndkhgakfodldaaGreatDoor
