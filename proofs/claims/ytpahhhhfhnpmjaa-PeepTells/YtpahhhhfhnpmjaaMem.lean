/-
  The machine in memory: its block, the five rows that it owns, the code and the numbers that came in; and what keeps it.
-/
import Derived.Test.YtpahhhhfhnpmjaaLeaf
import Derived.Lib.Builder
import Derived.Maps.AppendAt
import Derived.Deep.AppendLies
namespace Go.Proofs.Ytpahhhhfhnpmjaa
open Go.RowKit

theorem hid {p : Prop} (h : p) : Hid p := h
def ints (l : List Int) : List Value := l.map (Value.int .i64 ·)
theorem ints_length (l : List Int) : (ints l).length = l.length := by simp [ints]
theorem ints_append (a b : List Int) : ints (a ++ b) = ints a ++ ints b := by simp [ints]
theorem ints_take (l : List Int) (n : Nat) : (ints l).take n = ints (l.take n) := by simp [ints]
theorem ints_one (l : List Int) : ∀ u ∈ ints l, u.oneCell' = true := fun u hu => by
  obtain ⟨_, _, rfl⟩ := List.mem_map.1 hu
  rfl
def flat (gs : List (List Int × Int)) : List Int := gs.flatMap (·.1)
theorem flat_snoc (gs : List (List Int × Int)) (f : List Int × Int) : flat (gs ++ [f]) = flat gs ++ f.1 := by simp [flat]
def cF : Nat → List (List Int × Int) → List Value
  | _, [] => []
  | n, f :: r => .int .i64 n :: .int .i64 f.2 :: cF (n + f.1.length) r
theorem cF_length : ∀ (n : Nat) (gs : List (List Int × Int)), (cF n gs).length = gs.length * 2
  | _, [] => rfl
  | n, f :: r => by simp only [cF, List.length_cons, cF_length _ r]; omega
theorem cF_snoc : ∀ (n : Nat) (gs : List (List Int × Int)) (f : List Int × Int), cF n (gs ++ [f]) = cF n gs ++ [.int .i64 ((n + (flat gs).length : Nat) : Int), .int .i64 f.2]
  | n, [], f => by simp [cF, flat]
  | n, g :: r, f => by
    simp only [List.cons_append, cF, cF_snoc _ r f, flat, List.flatMap_cons, List.length_append]
    rw [Nat.add_assoc]
theorem cF_take (n : Nat) (gs : List (List Int × Int)) (f : List Int × Int) : (cF n (gs ++ [f])).take (gs.length * 2) = cF n gs := by
  rw [cF_snoc, List.take_append_of_le_length (by rw [cF_length]; exact Nat.le_refl _), List.take_of_length_le (by rw [cF_length]; exact Nat.le_refl _)]
theorem cF_same : ∀ (n : Nat) (gs : List (List Int × Int)) (f g : List Int × Int), f.2 = g.2 → cF n (gs ++ [f]) = cF n (gs ++ [g]) := fun n gs f g h => by rw [cF_snoc, cF_snoc, h]

theorem lt_of_heap {w : World} {b : Nat} {o : Obj} (h : w.heap[b]? = some o) : b < w.heap.size := by
  rcases Nat.lt_or_ge b w.heap.size with h' | h'
  · exact h'
  · simp [Array.getElem?_eq_none h'] at h
theorem heap_set {w : World} {b i : Nat} {cs : Array Value} {t : TypeId} {f : Nat × Nat} (h : w.heap[b]? = some (.cells cs t f)) (u : Value) : (w.setCell ⟨b, i, none⟩ u).heap[b]? = some (.cells (cs.setIfInBounds i u) t f) := by
  simp [World.setCell, Array.getElem?_modify, h]

/- A row that is owned, in blocks of one mark. -/
structure Own (w : World) (T : Nat → Nat) (B mark : Nat) (e : TypeId) (sz : Nat) (v : Value) (n : Nat) (xs : List Value) : Prop where
  own : w.ownsRow B e sz v n xs
  mark : ∀ k, v.ownBlock = some k → T k = mark
section
variable {w w' : World} {T T' : Nat → Nat} {B mark : Nat} {e : TypeId} {sz : Nat} {v : Value} {n : Nat} {xs : List Value}
theorem Own.keep (h : Own w T B mark e sz v n xs) (hk : ∀ k, k < w.heap.size → T k = mark → w'.heap[k]? = w.heap[k]?) (hT : ∀ k, k < w.heap.size → T k = mark → T' k = mark) : Own w' T' B mark e sz v n xs := by
  have hl := h.own.lt
  refine ⟨⟨h.own.1, ?_⟩, fun k hk' => hT k (hl k hk').2 (h.mark k hk')⟩
  rcases h.own.2 with h1 | ⟨g, cap, cur, hv, hb, hg, hr⟩
  · exact Or.inl h1
  · exact Or.inr ⟨g, cap, cur, hv, hb, (hk g (lt_of_heap hg) (h.mark g (by rw [hv]; rfl))).trans hg, hr⟩
theorem Own.form (h : Own w T B mark e sz v n xs) : ∃ a cap, v = .slice a n cap ∧ n ≤ cap ∧ cap ≤ maxLen := by
  rcases h.own.2 with ⟨h1, h2⟩ | ⟨g, cap, cur, hv, _, _, h3, h4, _⟩
  · exact ⟨none, 0, by rw [h2]; exact h1, by omega, by unfold maxLen; omega⟩
  · exact ⟨_, cap, hv, h3, h4⟩
theorem Own.place (h : Own w T B mark e sz v n xs) (hn : 0 < n) : ∃ g cap, v = .slice (some ⟨g, 0, none⟩) n cap ∧ n ≤ cap ∧ cap ≤ maxLen ∧ B ≤ g ∧ g < w.heap.size ∧ T g = mark ∧ (∀ j, w.frozen? ⟨g, j, none⟩ = false) ∧ (∀ j u, xs[j]? = some u → w.cell? ⟨g, j, none⟩ = some u) := by
  rcases h.own.2 with ⟨_, h2⟩ | ⟨g, cap, cur, hv, hb, hg, h3, h4, _⟩
  · omega
  · refine ⟨g, cap, hv, h3, h4, hb, lt_of_heap hg, h.mark g (by rw [hv]; rfl), fun j => Lib.frozen_of_heap hg j, fun j u hu => ?_⟩
    have := h.own.cells (g := g) (by rw [hv]; rfl) j u hu
    rw [show (⟨g, 0, none⟩ : Addr).add j = ⟨g, j, none⟩ from by unfold Addr.add; split <;> simp_all] at this
    exact this
/- the first so many of them -/
theorem Own.cut (h : Own w T B mark e sz v n xs) {m : Nat} (hm : m ≤ n) {a : Option Addr} {cap : Nat} (hv : v = .slice a n cap) : Own w T B mark e sz (.slice a m cap) m (xs.take (m * sz)) := by
  have hlen := h.own.1
  refine ⟨⟨by rw [List.length_take, hlen]; exact Nat.min_eq_left (Nat.mul_le_mul_right _ hm), ?_⟩, fun k hk => h.mark k (by rw [hv]; exact (show Value.ownBlock (.slice a n cap) = Value.ownBlock (.slice a m cap) from by cases a <;> rfl).trans hk)⟩
  rcases h.own.2 with ⟨h1, h2⟩ | ⟨g, cap', cur, h1, hb, hg, h3, h4, h5, h6⟩
  · rw [hv] at h1
    cases h1
    obtain rfl : m = 0 := by omega
    exact Or.inl ⟨rfl, rfl⟩
  · rw [hv] at h1
    cases h1
    refine Or.inr ⟨g, cap, cur, rfl, hb, hg, by omega, h4, h5, ?_⟩
    rw [← h6, List.take_take, Nat.min_eq_left (Nat.mul_le_mul_right _ hm)]
end

/- The code, and the numbers that come in, lie below B and don't change. -/
def CodeAt (w : World) (B : Nat) (v : Value) (code : List Mc.Ins) : Prop :=
  ∃ b off cap, v = .slice (some ⟨b, off, none⟩) code.length cap ∧ b < B ∧ ∀ i (h : i < code.length),
    w.cell? ⟨b, off + i * 3, none⟩ = some (.int .i64 code[i].op) ∧ w.cell? ⟨b, off + i * 3 + 1, none⟩ = some (.int .i64 code[i].a) ∧ w.cell? ⟨b, off + i * 3 + 2, none⟩ = some (.int .i64 code[i].b)
def IntsAt (w : World) (B : Nat) (v : Value) (l : List Int) : Prop :=
  ∃ a cap, v = .slice a l.length cap ∧ l.length ≤ cap ∧ cap ≤ maxLen ∧ (l = [] ∨ ∃ b off, a = some ⟨b, off, none⟩ ∧ b < B ∧ ∀ i (h : i < l.length), w.cell? ⟨b, off + i, none⟩ = some (.int .i64 l[i]))
def fit64 (n : Int) : Prop := -9223372036854775808 ≤ n ∧ n ≤ 9223372036854775807
structure CfgOk (c : Mc.Cfg) : Prop where
  mt : c.mt ≤ 2000
  ms : c.ms ≤ 134217728
  len : c.code.length ≤ 2048
  ops : ∀ i ∈ c.code, 1 ≤ i.op ∧ i.op ≤ 22 ∧ fit64 i.a ∧ fit64 i.b

structure Vs where
  cv : Value
  st : Value
  lo : Value
  fr : Value
  da : Value
  iv : Value
  ou : Value
structure MAt (B R : Nat) (c : Mc.Cfg) (w0 w : World) (T : Nat → Nat) (v : Vs) (s : Mc.St) : Prop where
  blk : w.heap[R]? = some (.cells #[v.cv, .int .i64 s.pc, v.st, v.lo, v.fr, v.da, v.iv, v.ou, .int .i64 c.mt, .int .i64 s.ticks, .int .i64 c.ms, .int .i64 s.steps, .int .i64 s.en] 64 (0, 0))
  hR : B ≤ R
  tR : T R = 1
  st : Own w T B 2 3 1 v.st s.stack.length (ints s.stack)
  lo : Own w T B 3 3 1 v.lo (flat s.gs ++ s.lo).length (ints (flat s.gs ++ s.lo))
  fr : Own w T B 4 72 2 v.fr (s.gs.length + 1) (cF 0 (s.gs ++ [(s.lo, s.bk)]))
  da : Own w T B 5 3 1 v.da s.data.length (ints s.data)
  ou : Own w T B 6 3 1 v.ou s.out.length (ints s.out)
  below : Below B w0 w
  cfg : CfgOk c
  code : CodeAt w0 B v.cv c.code
  inp : IntsAt w0 B v.iv s.inp
  bst : s.stack.length ≤ 2048
  bgs : s.gs.length ≤ 24
  bfr : ∀ f ∈ s.gs, f.1.length ≤ 2048
  blo : s.lo.length ≤ 2048
  bda : s.data.length ≤ 512
  bou : s.out.length ≤ 200
  bin : s.inp.length ≤ 64
  tk : 0 ≤ s.ticks ∧ s.ticks ≤ c.mt
  sp : 0 ≤ s.steps ∧ s.steps ≤ c.ms
section
variable {B R : Nat} {c : Mc.Cfg} {w0 w w' : World} {T : Nat → Nat} {v : Vs} {s : Mc.St}
theorem MAt.ltR (h : MAt B R c w0 w T v s) : R < w.heap.size := lt_of_heap h.blk
theorem MAt.cell (h : MAt B R c w0 w T v s) : w.cell? ⟨R, 0, none⟩ = some v.cv ∧ w.cell? ⟨R, 1, none⟩ = some (.int .i64 s.pc) ∧ w.cell? ⟨R, 2, none⟩ = some v.st ∧ w.cell? ⟨R, 3, none⟩ = some v.lo ∧ w.cell? ⟨R, 4, none⟩ = some v.fr ∧ w.cell? ⟨R, 5, none⟩ = some v.da ∧ w.cell? ⟨R, 6, none⟩ = some v.iv ∧ w.cell? ⟨R, 7, none⟩ = some v.ou ∧ w.cell? ⟨R, 8, none⟩ = some (.int .i64 c.mt) ∧ w.cell? ⟨R, 9, none⟩ = some (.int .i64 s.ticks) ∧ w.cell? ⟨R, 10, none⟩ = some (.int .i64 c.ms) ∧ w.cell? ⟨R, 11, none⟩ = some (.int .i64 s.steps) ∧ w.cell? ⟨R, 12, none⟩ = some (.int .i64 s.en) ∧ (∀ j, w.frozen? ⟨R, j, none⟩ = false) := by
  refine ⟨?_, ?_, ?_, ?_, ?_, ?_, ?_, ?_, ?_, ?_, ?_, ?_, ?_, fun j => Lib.frozen_of_heap h.blk j⟩ <;> (rw [Lib.cell_of_heap h.blk]; rfl)
theorem flat_len : ∀ (gs : List (List Int × Int)), (∀ f ∈ gs, f.1.length ≤ 2048) → (flat gs).length ≤ gs.length * 2048
  | [], _ => by simp [flat]
  | f :: r, h => by
    have := flat_len r (fun g hg => h g (List.mem_cons_of_mem _ hg))
    have h0 := h f (List.mem_cons_self ..)
    simp only [flat, List.flatMap_cons, List.length_append, List.length_cons] at this ⊢
    omega
theorem MAt.locals_le (h : MAt B R c w0 w T v s) : (flat s.gs ++ s.lo).length ≤ 51200 := by
  have := flat_len s.gs h.bfr
  have h1 := h.bgs
  have h2 := h.blo
  rw [List.length_append]
  have h3 : s.gs.length * 2048 ≤ 24 * 2048 := Nat.mul_le_mul_right _ h1
  omega
theorem MAt.later (h : MAt B R c w0 w T v s) (hb : Below w.heap.size w w') (hB : B ≤ w.heap.size) : MAt B R c w0 w' T v s :=
  { h with
    blk := (hb.block R h.ltR).trans h.blk
    st := h.st.keep (fun k hk _ => hb.block k hk) (fun _ _ e => e)
    lo := h.lo.keep (fun k hk _ => hb.block k hk) (fun _ _ e => e)
    fr := h.fr.keep (fun k hk _ => hb.block k hk) (fun _ _ e => e)
    da := h.da.keep (fun k hk _ => hb.block k hk) (fun _ _ e => e)
    ou := h.ou.keep (fun k hk _ => hb.block k hk) (fun _ _ e => e)
    below := h.below.trans (hb.mono hB) }
theorem MAt.hB (h : MAt B R c w0 w T v s) : B ≤ w.heap.size := Nat.le_trans h.hR (Nat.le_of_lt h.ltR)
theorem MAt.alloc (h : MAt B R c w0 w T v s) (o : Obj) : MAt B R c w0 (w.alloc o) T v s := h.later ((Below.refl _ _).alloc (Nat.le_refl _) o) h.hB
theorem MAt.drew (h : MAt B R c w0 w T v s) : MAt B R c w0 w.drew T v s := h.later (Below.refl _ _).drew h.hB
/- a number of the machine's own block is set -/
theorem MAt.setN (h : MAt B R c w0 w T v s) (j : Nat) (x : Value) (s' : Mc.St)
    (hb : (#[v.cv, .int .i64 s.pc, v.st, v.lo, v.fr, v.da, v.iv, v.ou, .int .i64 c.mt, .int .i64 s.ticks, .int .i64 c.ms, .int .i64 s.steps, .int .i64 s.en].setIfInBounds j x : Array Value) = #[v.cv, .int .i64 s'.pc, v.st, v.lo, v.fr, v.da, v.iv, v.ou, .int .i64 c.mt, .int .i64 s'.ticks, .int .i64 c.ms, .int .i64 s'.steps, .int .i64 s'.en])
    (e1 : s'.stack = s.stack) (e2 : s'.gs = s.gs) (e3 : s'.lo = s.lo) (e4 : s'.bk = s.bk) (e5 : s'.data = s.data) (e6 : s'.inp = s.inp) (e7 : s'.out = s.out)
    (tk : 0 ≤ s'.ticks ∧ s'.ticks ≤ c.mt) (sp : 0 ≤ s'.steps ∧ s'.steps ≤ c.ms) : MAt B R c w0 (w.setCell ⟨R, j, none⟩ x) T v s' := by
  have hk : ∀ m, m ≠ 1 → ∀ k, k < w.heap.size → T k = m → (w.setCell ⟨R, j, none⟩ x).heap[k]? = w.heap[k]? := fun m hm k _ e =>
    Below.heap_setCell w ⟨R, j, none⟩ x k (fun e' => by subst e'; exact hm (e.symm.trans h.tR))
  exact {
    blk := by rw [heap_set h.blk, hb]
    hR := h.hR, tR := h.tR
    st := by rw [e1]; exact h.st.keep (hk 2 (by decide)) (fun _ _ e => e)
    lo := by rw [e2, e3]; exact h.lo.keep (hk 3 (by decide)) (fun _ _ e => e)
    fr := by rw [e2, e3, e4]; exact h.fr.keep (hk 4 (by decide)) (fun _ _ e => e)
    da := by rw [e5]; exact h.da.keep (hk 5 (by decide)) (fun _ _ e => e)
    ou := by rw [e7]; exact h.ou.keep (hk 6 (by decide)) (fun _ _ e => e)
    below := h.below.setCell (p := ⟨R, j, none⟩) h.hR x
    cfg := h.cfg, code := h.code
    inp := by rw [e6]; exact h.inp
    bst := by rw [e1]; exact h.bst
    bgs := by rw [e2]; exact h.bgs
    bfr := by rw [e2]; exact h.bfr
    blo := by rw [e3]; exact h.blo
    bda := by rw [e5]; exact h.bda
    bou := by rw [e7]; exact h.bou
    bin := by rw [e6]; exact h.bin
    tk := tk, sp := sp }
theorem MAt.setEn (h : MAt B R c w0 w T v s) (e : Int) : MAt B R c w0 (w.setCell ⟨R, 12, none⟩ (.int .i64 e)) T v { s with en := e } :=
  h.setN 12 _ _ rfl rfl rfl rfl rfl rfl rfl rfl h.tk h.sp
theorem MAt.setPc (h : MAt B R c w0 w T v s) (e : Int) : MAt B R c w0 (w.setCell ⟨R, 1, none⟩ (.int .i64 e)) T v { s with pc := e } :=
  h.setN 1 _ _ rfl rfl rfl rfl rfl rfl rfl rfl h.tk h.sp
theorem MAt.setTicks (h : MAt B R c w0 w T v s) (e : Int) (h0 : 0 ≤ e) (h1 : e ≤ c.mt) : MAt B R c w0 (w.setCell ⟨R, 9, none⟩ (.int .i64 e)) T v { s with ticks := e } :=
  h.setN 9 _ _ rfl rfl rfl rfl rfl rfl rfl rfl ⟨h0, h1⟩ h.sp
theorem MAt.setSteps (h : MAt B R c w0 w T v s) (e : Int) (h0 : 0 ≤ e) (h1 : e ≤ c.ms) : MAt B R c w0 (w.setCell ⟨R, 11, none⟩ (.int .i64 e)) T v { s with steps := e } :=
  h.setN 11 _ _ rfl rfl rfl rfl rfl rfl rfl rfl h.tk ⟨h0, h1⟩
/- the numbers that come in, one fewer -/
theorem MAt.setIn (h : MAt B R c w0 w T v s) (x : Value) (l : List Int) (hi : IntsAt w0 B x l) (hl : l.length ≤ 64) : MAt B R c w0 (w.setCell ⟨R, 6, none⟩ x) T { v with iv := x } { s with inp := l } := by
  have hk : ∀ m, m ≠ 1 → ∀ k, k < w.heap.size → T k = m → (w.setCell ⟨R, 6, none⟩ x).heap[k]? = w.heap[k]? := fun m hm k _ e =>
    Below.heap_setCell w ⟨R, 6, none⟩ x k (fun e' => by subst e'; exact hm (e.symm.trans h.tR))
  exact { h with
    blk := by rw [heap_set h.blk]; rfl
    st := h.st.keep (hk 2 (by decide)) (fun _ _ e => e)
    lo := h.lo.keep (hk 3 (by decide)) (fun _ _ e => e)
    fr := h.fr.keep (hk 4 (by decide)) (fun _ _ e => e)
    da := h.da.keep (hk 5 (by decide)) (fun _ _ e => e)
    ou := h.ou.keep (hk 6 (by decide)) (fun _ _ e => e)
    below := h.below.setCell (p := ⟨R, 6, none⟩) h.hR x
    inp := hi
    bin := hl }
/- a row has grown or shrunk: what of the rest stays -/
theorem MAt.rest (h : MAt B R c w0 w T v s) {w1 : World} {vr : Value} {m : Nat} (hm : ∀ k, vr.ownBlock = some k → T k = m ∧ B ≤ k) (hm1 : m ≠ 1) (hg : w.grownBy w1 vr.ownBlock) (j : Nat) (x : Value) :
    (∀ k, k < w.heap.size → T k ≠ m → k ≠ R → (w1.setCell ⟨R, j, none⟩ x).heap[k]? = w.heap[k]?) ∧ w1.heap[R]? = w.heap[R]? ∧ Below B w0 (w1.setCell ⟨R, j, none⟩ x) := by
  have hR : w1.heap[R]? = w.heap[R]? := hg.block R h.ltR (fun e => hm1 (by rw [← (hm R e.symm).1]; exact h.tR))
  refine ⟨fun k hk ht hne => ?_, hR, ?_⟩
  · rw [Below.heap_setCell w1 ⟨R, j, none⟩ x k hne]
    exact hg.block k hk (fun e => ht (hm k e.symm).1)
  · exact (h.below.grown hg h.hB (fun k e => (hm k e).2)).setCell (p := ⟨R, j, none⟩) h.hR x
def grownT (w : World) (T : Nat → Nat) (m : Nat) : Nat → Nat := fun k => if w.heap.size ≤ k then m else T k
theorem grownT_old {w : World} {T : Nat → Nat} (m a : Nat) : ∀ k, k < w.heap.size → T k = a → grownT w T m k = a := fun k hk e => by
  unfold grownT; rw [if_neg (by omega)]; exact e
theorem MAt.row (h : MAt B R c w0 w T v s) {w1 : World} {m : Nat} {e : TypeId} {sz n : Nat} {xs : List Value} {vr x : Value} (hm : ∀ k, vr.ownBlock = some k → T k = m) (hm1 : m ≠ 1) (ho : w1.ownsRow B e sz x n xs)
    (hat : ∀ k, x.ownBlock = some k → k < w.heap.size → vr.ownBlock = some k) (j : Nat) (y : Value) : Own (w1.setCell ⟨R, j, none⟩ y) (grownT w T m) B m e sz x n xs := by
  have hlt := h.ltR
  have hmark : ∀ k, x.ownBlock = some k → grownT w T m k = m := by
    intro k e
    by_cases hk : w.heap.size ≤ k
    · unfold grownT; rw [if_pos hk]
    · exact grownT_old m m k (by omega) (hm k (hat k e (by omega)))
  refine ⟨⟨ho.1, ?_⟩, hmark⟩
  rcases ho.2 with h1 | ⟨g, cap, cur, hv, hbg, hgg, hr⟩
  · exact Or.inl h1
  · refine Or.inr ⟨g, cap, cur, hv, hbg, ?_, hr⟩
    rw [Below.heap_setCell w1 ⟨R, j, none⟩ y g ?_]
    · exact hgg
    · intro e
      have e' : g = R := e
      subst e'
      have := hm g (hat g (by rw [hv]; rfl) hlt)
      rw [h.tR] at this
      exact hm1 this.symm
theorem MAt.keeps (h : MAt B R c w0 w T v s) {w1 : World} {m : Nat} {j : Nat} {x : Value} (hk : ∀ k, k < w.heap.size → T k ≠ m → k ≠ R → (w1.setCell ⟨R, j, none⟩ x).heap[k]? = w.heap[k]?) :
    ∀ a, a ≠ 1 → a ≠ m → ∀ k, k < w.heap.size → T k = a → (w1.setCell ⟨R, j, none⟩ x).heap[k]? = w.heap[k]? := fun a h1 h2 k hk' e =>
  hk k hk' (by rw [e]; exact h2) (fun e' => by subst e'; exact h1 (e.symm.trans h.tR))
theorem MAt.setSt (h : MAt B R c w0 w T v s) {w1 : World} {x : Value} {l : List Int} (hg : w.grownBy w1 v.st.ownBlock) (ho : w1.ownsRow B 3 1 x l.length (ints l))
    (hat : ∀ k, x.ownBlock = some k → k < w.heap.size → v.st.ownBlock = some k) (hl : l.length ≤ 2048) :
    MAt B R c w0 (w1.setCell ⟨R, 2, none⟩ x) (grownT w T 2) { v with st := x } { s with stack := l } := by
  obtain ⟨hk, hR, hb⟩ := h.rest (m := 2) (fun k e => ⟨h.st.mark k e, (h.st.own.lt k e).1⟩) (by decide) hg 2 x
  have keep := h.keeps hk
  exact { h with
    blk := by rw [heap_set (hR.trans h.blk)]; rfl
    tR := grownT_old 2 1 R h.ltR h.tR
    st := h.row (fun k e => h.st.mark k e) (by decide) ho hat 2 x
    lo := h.lo.keep (keep 3 (by decide) (by decide)) (grownT_old 2 3)
    fr := h.fr.keep (keep 4 (by decide) (by decide)) (grownT_old 2 4)
    ou := h.ou.keep (keep 6 (by decide) (by decide)) (grownT_old 2 6)
    da := h.da.keep (keep 5 (by decide) (by decide)) (grownT_old 2 5)
    below := hb
    bst := hl }
theorem MAt.setLo (h : MAt B R c w0 w T v s) {w1 : World} {x : Value} {l : List Int} (hg : w.grownBy w1 v.lo.ownBlock) (ho : w1.ownsRow B 3 1 x (flat s.gs ++ l).length (ints (flat s.gs ++ l)))
    (hat : ∀ k, x.ownBlock = some k → k < w.heap.size → v.lo.ownBlock = some k) (hl : l.length ≤ 2048) :
    MAt B R c w0 (w1.setCell ⟨R, 3, none⟩ x) (grownT w T 3) { v with lo := x } { s with lo := l } := by
  obtain ⟨hk, hR, hb⟩ := h.rest (m := 3) (fun k e => ⟨h.lo.mark k e, (h.lo.own.lt k e).1⟩) (by decide) hg 3 x
  have keep := h.keeps hk
  exact { h with
    blk := by rw [heap_set (hR.trans h.blk)]; rfl
    tR := grownT_old 3 1 R h.ltR h.tR
    st := h.st.keep (keep 2 (by decide) (by decide)) (grownT_old 3 2)
    lo := h.row (fun k e => h.lo.mark k e) (by decide) ho hat 3 x
    fr := by
      have := h.fr.keep (keep 4 (by decide) (by decide)) (grownT_old (T := T) 3 4)
      rw [cF_same 0 s.gs (s.lo, s.bk) (l, s.bk) rfl] at this
      exact this
    ou := h.ou.keep (keep 6 (by decide) (by decide)) (grownT_old 3 6)
    da := h.da.keep (keep 5 (by decide) (by decide)) (grownT_old 3 5)
    below := hb
    blo := hl }
theorem MAt.setOu (h : MAt B R c w0 w T v s) {w1 : World} {x : Value} {l : List Int} (hg : w.grownBy w1 v.ou.ownBlock) (ho : w1.ownsRow B 3 1 x l.length (ints l))
    (hat : ∀ k, x.ownBlock = some k → k < w.heap.size → v.ou.ownBlock = some k) (hl : l.length ≤ 200) :
    MAt B R c w0 (w1.setCell ⟨R, 7, none⟩ x) (grownT w T 6) { v with ou := x } { s with out := l } := by
  obtain ⟨hk, hR, hb⟩ := h.rest (m := 6) (fun k e => ⟨h.ou.mark k e, (h.ou.own.lt k e).1⟩) (by decide) hg 7 x
  have keep := h.keeps hk
  exact { h with
    blk := by rw [heap_set (hR.trans h.blk)]; rfl
    tR := grownT_old 6 1 R h.ltR h.tR
    st := h.st.keep (keep 2 (by decide) (by decide)) (grownT_old 6 2)
    lo := h.lo.keep (keep 3 (by decide) (by decide)) (grownT_old 6 3)
    fr := h.fr.keep (keep 4 (by decide) (by decide)) (grownT_old 6 4)
    ou := h.row (fun k e => h.ou.mark k e) (by decide) ho hat 7 x
    da := h.da.keep (keep 5 (by decide) (by decide)) (grownT_old 6 5)
    below := hb
    bou := hl }
theorem MAt.setFr (h : MAt B R c w0 w T v s) {w1 : World} {x : Value} {gs : List (List Int × Int)} {l : List Int} {b : Int} (hg : w.grownBy w1 v.fr.ownBlock) (ho : w1.ownsRow B 72 2 x (gs.length + 1) (cF 0 (gs ++ [(l, b)])))
    (hat : ∀ k, x.ownBlock = some k → k < w.heap.size → v.fr.ownBlock = some k) (hl : l.length ≤ 2048) (hgs : gs.length ≤ 24) (hfr : ∀ f ∈ gs, f.1.length ≤ 2048) (hfl : flat gs ++ l = flat s.gs ++ s.lo) :
    MAt B R c w0 (w1.setCell ⟨R, 4, none⟩ x) (grownT w T 4) { v with fr := x } { s with gs := gs, lo := l, bk := b } := by
  obtain ⟨hk, hR, hb⟩ := h.rest (m := 4) (fun k e => ⟨h.fr.mark k e, (h.fr.own.lt k e).1⟩) (by decide) hg 4 x
  have keep := h.keeps hk
  exact { h with
    blk := by rw [heap_set (hR.trans h.blk)]; rfl
    tR := grownT_old 4 1 R h.ltR h.tR
    st := h.st.keep (keep 2 (by decide) (by decide)) (grownT_old 4 2)
    lo := by
      have := h.lo.keep (keep 3 (by decide) (by decide)) (grownT_old (T := T) 4 3)
      rw [← hfl] at this
      exact this
    fr := h.row (fun k e => h.fr.mark k e) (by decide) ho hat 4 x
    ou := h.ou.keep (keep 6 (by decide) (by decide)) (grownT_old 4 6)
    da := h.da.keep (keep 5 (by decide) (by decide)) (grownT_old 4 5)
    below := hb
    blo := hl
    bgs := hgs
    bfr := hfr }
end

end Go.Proofs.Ytpahhhhfhnpmjaa
