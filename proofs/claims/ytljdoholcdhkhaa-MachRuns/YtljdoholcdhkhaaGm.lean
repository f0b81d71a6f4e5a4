/-
  The reference's machine in memory: its block, the rows that it owns, each frame's own row of locals (marked by its depth); stop and tick.
-/
import Derived.Test.YtljdoholcdhkhaaRef
import Derived.Test.YtljdoholcdhkhaaRgp
namespace Go.Proofs.Ytljdoholcdhkhaa
open Go.RowKit Go.Shelf
set_option maxRecDepth 100000

structure Gv where
  st : Value
  fr : Value
  da : Value
  iv : Value
  ou : Value
  lv : List Value
  bx : Option (Nat × Obj)
/- the frames' cells -/
def gF : List Value → List (List Int × Int) → List Value
  | x :: r, f :: fs => x :: .int .i64 f.2 :: gF r fs
  | _, _ => []
structure GAt (B R : Nat) (mt : Int) (w0 w : World) (T : Nat → Nat) (v : Gv) (g : Rg.G) : Prop where
  blk : w.heap[R]? = some (.cells #[.int .i64 g.s.pc, v.st, v.fr, v.da, v.iv, v.ou, .int .i64 g.s.ticks, .int .i64 mt, .int .i64 g.s.en, .bool g.o] 56 (0, 0))
  hR : B ≤ R
  tR : T R = 1
  st : Own w T B 2 3 1 v.st g.s.stack.length (ints g.s.stack)
  fr : Own w T B 4 53 2 v.fr (g.s.gs.length + 1) (gF v.lv (g.s.gs ++ [(g.s.lo, g.s.bk)]))
  ll : v.lv.length = g.s.gs.length + 1
  lo : ∀ i (h : i < v.lv.length), Own w T B (10 + i) 3 1 v.lv[i] ((g.s.gs ++ [(g.s.lo, g.s.bk)]).getD i ([], 0)).1.length (ints ((g.s.gs ++ [(g.s.lo, g.s.bk)]).getD i ([], 0)).1)
  da : Own w T B 5 3 1 v.da g.s.data.length (ints g.s.data)
  ou : Own w T B 6 3 1 v.ou g.s.out.length (ints g.s.out)
  below : Below B w0 w
  inp : IntsAt w0 B v.iv g.s.inp
  bmt : 0 ≤ mt ∧ mt ≤ 2000
  bst : g.s.stack.length ≤ 2048
  bgs : g.s.gs.length ≤ 25
  bfr : ∀ f ∈ g.s.gs, f.1.length ≤ 2048
  blo : g.s.lo.length ≤ 2048
  bda : g.s.data.length ≤ 512
  bou : g.s.out.length ≤ 200
  bin : g.s.inp.length ≤ 64
  tk : 0 ≤ g.s.ticks ∧ g.s.ticks ≤ mt
  kp : ∀ p, v.bx = some p → w.heap[p.1]? = some p.2 ∧ T p.1 = 7
section
variable {B R : Nat} {mt : Int} {w0 w w' : World} {T : Nat → Nat} {v : Gv} {g : Rg.G}
theorem GAt.ltR (h : GAt B R mt w0 w T v g) : R < w.heap.size := lt_of_heap h.blk
theorem GAt.hB (h : GAt B R mt w0 w T v g) : B ≤ w.heap.size := Nat.le_trans h.hR (Nat.le_of_lt h.ltR)
theorem GAt.cell (h : GAt B R mt w0 w T v g) : w.cell? ⟨R, 0, none⟩ = some (.int .i64 g.s.pc) ∧ w.cell? ⟨R, 1, none⟩ = some v.st ∧ w.cell? ⟨R, 2, none⟩ = some v.fr ∧ w.cell? ⟨R, 3, none⟩ = some v.da ∧ w.cell? ⟨R, 4, none⟩ = some v.iv ∧ w.cell? ⟨R, 5, none⟩ = some v.ou ∧ w.cell? ⟨R, 6, none⟩ = some (.int .i64 g.s.ticks) ∧ w.cell? ⟨R, 7, none⟩ = some (.int .i64 mt) ∧ w.cell? ⟨R, 8, none⟩ = some (.int .i64 g.s.en) ∧ w.cell? ⟨R, 9, none⟩ = some (.bool g.o) ∧ (∀ j, w.frozen? ⟨R, j, none⟩ = false) := by
  refine ⟨?_, ?_, ?_, ?_, ?_, ?_, ?_, ?_, ?_, ?_, fun j => Lib.frozen_of_heap h.blk j⟩ <;> (rw [Lib.cell_of_heap h.blk]; rfl)
theorem GAt.kept (h : GAt B R mt w0 w T v g) {T' : Nat → Nat} (hk : ∀ k, k < w.heap.size → T k = 7 → w'.heap[k]? = w.heap[k]?) (hT : ∀ k, k < w.heap.size → T k = 7 → T' k = 7) : ∀ p, v.bx = some p → w'.heap[p.1]? = some p.2 ∧ T' p.1 = 7 := fun p hp =>
  have h1 := h.kp p hp
  ⟨(hk p.1 (lt_of_heap h1.1) h1.2).trans h1.1, hT p.1 (lt_of_heap h1.1) h1.2⟩
theorem GAt.later (h : GAt B R mt w0 w T v g) (hb : Below w.heap.size w w') : GAt B R mt w0 w' T v g :=
  { h with
    blk := (hb.block R h.ltR).trans h.blk
    st := h.st.keep (fun k hk _ => hb.block k hk) (fun _ _ e => e)
    lo := fun i hi => (h.lo i hi).keep (fun k hk _ => hb.block k hk) (fun _ _ e => e)
    fr := h.fr.keep (fun k hk _ => hb.block k hk) (fun _ _ e => e)
    da := h.da.keep (fun k hk _ => hb.block k hk) (fun _ _ e => e)
    ou := h.ou.keep (fun k hk _ => hb.block k hk) (fun _ _ e => e)
    below := h.below.trans (hb.mono h.hB)
    kp := h.kept (fun k hk _ => hb.block k hk) (fun _ _ e => e) }
theorem GAt.drewN (h : GAt B R mt w0 w T v g) (n : Nat) : GAt B R mt w0 (w.drewN n) T v g := h.later ⟨rfl, rfl, rfl, Nat.le_refl _, fun _ _ => rfl⟩
/- a plain cell of the machine's own block is set -/
theorem GAt.setN (h : GAt B R mt w0 w T v g) (j : Nat) (x : Value) (g' : Rg.G)
    (hb : (#[.int .i64 g.s.pc, v.st, v.fr, v.da, v.iv, v.ou, .int .i64 g.s.ticks, .int .i64 mt, .int .i64 g.s.en, .bool g.o].setIfInBounds j x : Array Value) = #[.int .i64 g'.s.pc, v.st, v.fr, v.da, v.iv, v.ou, .int .i64 g'.s.ticks, .int .i64 mt, .int .i64 g'.s.en, .bool g'.o])
    (e1 : g'.s.stack = g.s.stack) (e2 : g'.s.gs = g.s.gs) (e3 : g'.s.lo = g.s.lo) (e4 : g'.s.bk = g.s.bk) (e5 : g'.s.data = g.s.data) (e6 : g'.s.inp = g.s.inp) (e7 : g'.s.out = g.s.out)
    (tk : 0 ≤ g'.s.ticks ∧ g'.s.ticks ≤ mt) : GAt B R mt w0 (w.setCell ⟨R, j, none⟩ x) T v g' := by
  have hk : ∀ m, m ≠ 1 → ∀ k, k < w.heap.size → T k = m → (w.setCell ⟨R, j, none⟩ x).heap[k]? = w.heap[k]? := fun m hm k _ e =>
    Below.heap_setCell w ⟨R, j, none⟩ x k (fun e' => by subst e'; exact hm (e.symm.trans h.tR))
  exact {
    blk := by rw [heap_set h.blk, hb]
    hR := h.hR, tR := h.tR
    st := by rw [e1]; exact h.st.keep (hk 2 (by decide)) (fun _ _ e => e)
    lo := by rw [e2, e3, e4]; exact fun i hi => (h.lo i hi).keep (hk (10 + i) (by omega)) (fun _ _ e => e)
    ll := by rw [e2]; exact h.ll
    fr := by rw [e2, e3, e4]; exact h.fr.keep (hk 4 (by decide)) (fun _ _ e => e)
    da := by rw [e5]; exact h.da.keep (hk 5 (by decide)) (fun _ _ e => e)
    ou := by rw [e7]; exact h.ou.keep (hk 6 (by decide)) (fun _ _ e => e)
    below := h.below.setCell (p := ⟨R, j, none⟩) h.hR x
    inp := by rw [e6]; exact h.inp
    bmt := h.bmt
    bst := by rw [e1]; exact h.bst
    bgs := by rw [e2]; exact h.bgs
    bfr := by rw [e2]; exact h.bfr
    blo := by rw [e3]; exact h.blo
    bda := by rw [e5]; exact h.bda
    bou := by rw [e7]; exact h.bou
    bin := by rw [e6]; exact h.bin
    tk := tk
    kp := h.kept (hk 7 (by decide)) (fun _ _ e => e) }
theorem GAt.setStop (h : GAt B R mt w0 w T v g) (e : Int) : GAt B R mt w0 ((w.setCell ⟨R, 8, none⟩ (.int .i64 e)).setCell ⟨R, 9, none⟩ (.bool true)) T v ⟨{ g.s with en := e }, true⟩ :=
  (h.setN 8 _ ⟨{ g.s with en := e }, g.o⟩ rfl rfl rfl rfl rfl rfl rfl rfl h.tk).setN 9 _ ⟨{ g.s with en := e }, true⟩ rfl rfl rfl rfl rfl rfl rfl rfl h.tk
theorem GAt.setPc (h : GAt B R mt w0 w T v g) (e : Int) : GAt B R mt w0 (w.setCell ⟨R, 0, none⟩ (.int .i64 e)) T v (Rg.at_ e g) := h.setN 0 _ (Rg.at_ e g) rfl rfl rfl rfl rfl rfl rfl rfl h.tk
theorem GAt.setTicks (h : GAt B R mt w0 w T v g) (e : Int) (h0 : 0 ≤ e) (h1 : e ≤ mt) : GAt B R mt w0 (w.setCell ⟨R, 6, none⟩ (.int .i64 e)) T v ⟨{ g.s with ticks := e }, g.o⟩ := h.setN 6 _ ⟨{ g.s with ticks := e }, g.o⟩ rfl rfl rfl rfl rfl rfl rfl rfl ⟨h0, h1⟩
/- a row has grown or shrunk: what of the rest stays -/
theorem GAt.rest (h : GAt B R mt w0 w T v g) {w1 : World} {vr : Value} {m : Nat} (hm : ∀ k, vr.ownBlock = some k → T k = m ∧ B ≤ k) (hm1 : m ≠ 1) (hg : w.grownBy w1 vr.ownBlock) (j : Nat) (x : Value) :
    (∀ k, k < w.heap.size → T k ≠ m → k ≠ R → (w1.setCell ⟨R, j, none⟩ x).heap[k]? = w.heap[k]?) ∧ w1.heap[R]? = w.heap[R]? ∧ Below B w0 (w1.setCell ⟨R, j, none⟩ x) := by
  have hR : w1.heap[R]? = w.heap[R]? := hg.block R h.ltR (fun e => hm1 (by rw [← (hm R e.symm).1]; exact h.tR))
  refine ⟨fun k hk ht hne => ?_, hR, ?_⟩
  · rw [Below.heap_setCell w1 ⟨R, j, none⟩ x k hne]
    exact hg.block k hk (fun e => ht (hm k e.symm).1)
  · exact (h.below.grown hg h.hB (fun k e => (hm k e).2)).setCell (p := ⟨R, j, none⟩) h.hR x
theorem GAt.row (h : GAt B R mt w0 w T v g) {w1 : World} {m : Nat} {e : TypeId} {sz n : Nat} {xs : List Value} {vr x : Value} (hm : ∀ k, vr.ownBlock = some k → T k = m) (hm1 : m ≠ 1) (ho : w1.ownsRow B e sz x n xs)
    (hat : ∀ k, x.ownBlock = some k → k < w.heap.size → vr.ownBlock = some k) (j : Nat) (y : Value) : Own (w1.setCell ⟨R, j, none⟩ y) (grownT w T m) B m e sz x n xs := by
  have hlt := h.ltR
  have hmark : ∀ k, x.ownBlock = some k → grownT w T m k = m := by
    intro k e
    by_cases hk : w.heap.size ≤ k
    · unfold grownT; rw [if_pos hk]
    · exact grownT_old m m k (by omega) (hm k (hat k e (by omega)))
  refine ⟨⟨ho.1, ?_⟩, hmark⟩
  rcases ho.2 with h1 | ⟨q, cap, cur, hv, hbg, hgg, hr⟩
  · exact Or.inl h1
  · refine Or.inr ⟨q, cap, cur, hv, hbg, ?_, hr⟩
    rw [Below.heap_setCell w1 ⟨R, j, none⟩ y q ?_]
    · exact hgg
    · intro e
      have e' : q = R := e
      subst e'
      have := hm q (hat q (by rw [hv]; rfl) hlt)
      rw [h.tR] at this
      exact hm1 this.symm
theorem GAt.keeps (h : GAt B R mt w0 w T v g) {w1 : World} {m : Nat} {j : Nat} {x : Value} (hk : ∀ k, k < w.heap.size → T k ≠ m → k ≠ R → (w1.setCell ⟨R, j, none⟩ x).heap[k]? = w.heap[k]?) :
    ∀ a, a ≠ 1 → a ≠ m → ∀ k, k < w.heap.size → T k = a → (w1.setCell ⟨R, j, none⟩ x).heap[k]? = w.heap[k]? := fun a h1 h2 k hk' e =>
  hk k hk' (by rw [e]; exact h2) (fun e' => by subst e'; exact h1 (e.symm.trans h.tR))
theorem GAt.setSt (h : GAt B R mt w0 w T v g) {w1 : World} {x : Value} {l : List Int} (hg : w.grownBy w1 v.st.ownBlock) (ho : w1.ownsRow B 3 1 x l.length (ints l))
    (hat : ∀ k, x.ownBlock = some k → k < w.heap.size → v.st.ownBlock = some k) (hl : l.length ≤ 2048) :
    GAt B R mt w0 (w1.setCell ⟨R, 1, none⟩ x) (grownT w T 2) { v with st := x } ⟨{ g.s with stack := l }, g.o⟩ := by
  obtain ⟨hk, hR, hb⟩ := h.rest (m := 2) (fun k e => ⟨h.st.mark k e, (h.st.own.lt k e).1⟩) (by decide) hg 1 x
  have keep := h.keeps hk
  exact { h with
    blk := by rw [heap_set (hR.trans h.blk)]; rfl
    tR := grownT_old 2 1 R h.ltR h.tR
    st := h.row (fun k e => h.st.mark k e) (by decide) ho hat 1 x
    lo := fun i hi => (h.lo i hi).keep (keep (10 + i) (by omega) (by omega)) (grownT_old 2 (10 + i))
    fr := h.fr.keep (keep 4 (by decide) (by decide)) (grownT_old 2 4)
    ou := h.ou.keep (keep 6 (by decide) (by decide)) (grownT_old 2 6)
    da := h.da.keep (keep 5 (by decide) (by decide)) (grownT_old 2 5)
    below := hb
    bst := hl
    kp := h.kept (keep 7 (by decide) (by decide)) (grownT_old 2 7) }
theorem GAt.setOu (h : GAt B R mt w0 w T v g) {w1 : World} {x : Value} {l : List Int} (hg : w.grownBy w1 v.ou.ownBlock) (ho : w1.ownsRow B 3 1 x l.length (ints l))
    (hat : ∀ k, x.ownBlock = some k → k < w.heap.size → v.ou.ownBlock = some k) (hl : l.length ≤ 200) :
    GAt B R mt w0 (w1.setCell ⟨R, 5, none⟩ x) (grownT w T 6) { v with ou := x } ⟨{ g.s with out := l }, g.o⟩ := by
  obtain ⟨hk, hR, hb⟩ := h.rest (m := 6) (fun k e => ⟨h.ou.mark k e, (h.ou.own.lt k e).1⟩) (by decide) hg 5 x
  have keep := h.keeps hk
  exact { h with
    blk := by rw [heap_set (hR.trans h.blk)]; rfl
    tR := grownT_old 6 1 R h.ltR h.tR
    st := h.st.keep (keep 2 (by decide) (by decide)) (grownT_old 6 2)
    lo := fun i hi => (h.lo i hi).keep (keep (10 + i) (by omega) (by omega)) (grownT_old 6 (10 + i))
    fr := h.fr.keep (keep 4 (by decide) (by decide)) (grownT_old 6 4)
    ou := h.row (fun k e => h.ou.mark k e) (by decide) ho hat 5 x
    da := h.da.keep (keep 5 (by decide) (by decide)) (grownT_old 6 5)
    below := hb
    bou := hl
    kp := h.kept (keep 7 (by decide) (by decide)) (grownT_old 6 7) }
end

/- the machine is there, its frames where they were -/
def Gch (B R : Nat) (mt : Int) (w0 : World) (F : Value × Option (Nat × Obj)) (L : List Value) (w : World) (g : Rg.G) : Prop := ∃ T v, GAt B R mt w0 w T v g ∧ (v.fr = F.1 ∧ v.bx = F.2) ∧ v.lv = L
def GEnd (B R : Nat) (mt : Int) (w0 : World) (F : Value × Option (Nat × Obj)) (L : List Value) (u : Value) (g : Rg.G) (e : Ending) (w' : World) : Prop := e = .returned u ∧ Gch B R mt w0 F L w' g

theorem gstop_any (B R : Nat) (mt : Int) (w0 : World) (F : Value × Option (Nat × Obj)) (L : List Value) (g : Rg.G) (n : Int) (w : World) (h : Gch B R mt w0 F L w g) :
    Calls Try.prog 19 #[.pointer (some ⟨R, 0, none⟩), .int .i64 n] w (GEnd B R mt w0 F L (.tuple #[]) (Rg.stop n g)) := by
  obtain ⟨T, v, hm, hF, hL⟩ := h
  have HM := hid hm
  obtain ⟨-, -, -, -, -, -, -, -, c8, c9, ff⟩ := hm.cell
  have f8 := ff 8
  have f9 := ff 9
  have hlt := hm.ltR
  clear hm ff
  obtain ⟨s, o⟩ := g
  simp only at c8 c9
  cases o with
  | true =>
    have HP : Hid (Rg.stop n ⟨s, true⟩ = ⟨s, true⟩) := rfl
    go_enter Try.func19, Try.ntmps19
    go_wp2_with fail
    go_end0
    exact ⟨rfl, T, v, by rw [HP.out]; exact HM.out, hF, hL⟩
  | false =>
    have HP : Hid (Rg.stop n ⟨s, false⟩ = ⟨{ s with en := n }, true⟩) := rfl
    go_enter Try.func19, Try.ntmps19
    go_wp2_with fail
    go_end0
    exact ⟨rfl, T, v, by rw [HP.out]; exact HM.out.setStop n, hF, hL⟩

end Go.Proofs.Ytljdoholcdhkhaa
