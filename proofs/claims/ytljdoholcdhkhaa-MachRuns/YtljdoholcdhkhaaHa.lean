/-
  The reference's machine does an instruction: what the walks share.
-/
import Derived.Test.YtljdoholcdhkhaaGx
import Derived.Test.YtljdoholcdhkhaaApp
import Derived.Deep.RegionLaw
import Derived.Test.YtljdoholcdhkhaaOpy
namespace Go.Proofs.Ytljdoholcdhkhaa
open Go.RowKit Go.Shelf
set_option maxRecDepth 100000

structure DoOk (g : Rg.G) (i : Mc.Ins) : Prop where
  o : g.o = false
  pc : 0 ≤ g.s.pc ∧ g.s.pc ≤ 2048
  gs : g.s.gs.length ≤ 24
  fa : fit64 i.a
  fb : fit64 i.b
def GDoes (B R : Nat) (mt : Int) (w0 : World) (g : Rg.G) (i : Mc.Ins) (w : World) : Prop :=
  Calls Try.prog 20 #[.pointer (some ⟨R, 0, none⟩), .agg #[.int .i64 i.op, .int .i64 i.a, .int .i64 i.b]] w fun e w' => e = .returned (.tuple #[]) ∧ ∃ F' L', Gch B R mt w0 (F', none) L' w' (Rg.doI mt i g)
def bxOf (i : Mc.Ins) : Obj := .cells #[.int .i64 i.op, .int .i64 i.a, .int .i64 i.b] 50 (0, 0)

section
variable {B R : Nat} {mt : Int} {w0 w w' : World} {T : Nat → Nat} {v : Gv} {g : Rg.G} {F : Value} {X : Option (Nat × Obj)} {L : List Value}
theorem GAt.box (h : GAt B R mt w0 w T v g) (o : Obj) : GAt B R mt w0 (w.alloc o) (grownT w T 7) { v with bx := some (w.heap.size, o) } g := by
  have hb : Below w.heap.size w (w.alloc o) := (Below.refl _ _).alloc (Nat.le_refl _) o
  exact { h with
    blk := (hb.block R h.ltR).trans h.blk
    tR := grownT_old 7 1 R h.ltR h.tR
    st := h.st.keep (fun k hk _ => hb.block k hk) (grownT_old 7 2)
    lo := fun i hi => (h.lo i hi).keep (fun k hk _ => hb.block k hk) (grownT_old 7 (10 + i))
    fr := h.fr.keep (fun k hk _ => hb.block k hk) (grownT_old 7 4)
    da := h.da.keep (fun k hk _ => hb.block k hk) (grownT_old 7 5)
    ou := h.ou.keep (fun k hk _ => hb.block k hk) (grownT_old 7 6)
    below := h.below.trans (hb.mono h.hB)
    kp := fun p hp => by
      cases hp
      exact ⟨heap_alloc_new w o, by unfold grownT; rw [if_pos (Nat.le_refl _)]⟩ }
theorem GAt.unbox (h : GAt B R mt w0 w T v g) : GAt B R mt w0 w T { v with bx := none } g := { h with kp := fun p hp => by cases hp }
theorem Gch.box (h : Gch B R mt w0 (F, X) L w g) (o : Obj) : Gch B R mt w0 (F, some (w.heap.size, o)) L (w.alloc o) g := by
  obtain ⟨T, v, h, hX, hL⟩ := h
  exact ⟨_, _, h.box o, ⟨hX.1, rfl⟩, hL⟩
theorem Gch.unbox (h : Gch B R mt w0 (F, X) L w g) : Gch B R mt w0 (F, none) L w g := by
  obtain ⟨T, v, h, hX, hL⟩ := h
  exact ⟨_, _, h.unbox, ⟨hX.1, rfl⟩, hL⟩
theorem Gch.drewN (h : Gch B R mt w0 (F, X) L w g) (n : Nat) : Gch B R mt w0 (F, X) L (w.drewN n) g := by
  obtain ⟨T, v, h, hX, hL⟩ := h
  exact ⟨_, _, h.drewN n, hX, hL⟩
theorem Gch.drew (h : Gch B R mt w0 (F, X) L w g) : Gch B R mt w0 (F, X) L w.drew g := by
  obtain ⟨T, v, h, hX, hL⟩ := h
  exact ⟨_, _, h.drew, hX, hL⟩
theorem Gch.bxs {n : Nat} {i : Mc.Ins} (h : Gch B R mt w0 (F, some (n, bxOf i)) L w g) : w.cell? ⟨n, 0, none⟩ = some (.int .i64 i.op) ∧ w.cell? ⟨n, 1, none⟩ = some (.int .i64 i.a) ∧ w.cell? ⟨n, 2, none⟩ = some (.int .i64 i.b) ∧ n < w.heap.size := by
  obtain ⟨T, v, h, hX, hL⟩ := h
  have h1 := (h.kp _ hX.2).1
  exact ⟨by rw [Lib.cell_of_heap h1]; rfl, by rw [Lib.cell_of_heap h1]; rfl, by rw [Lib.cell_of_heap h1]; rfl, lt_of_heap h1⟩
theorem Gch.get (h : Gch B R mt w0 (F, X) L w g) : (∃ x, w.cell? ⟨R, 0, none⟩ = some x) ∧ w.frozen? ⟨R, 0, none⟩ = false ∧ R < w.heap.size := by
  obtain ⟨T, v, h, hX, hL⟩ := h
  exact ⟨⟨_, h.cell.1⟩, h.cell.2.2.2.2.2.2.2.2.2.2 0, h.ltR⟩
theorem Gch.over (h : Gch B R mt w0 (F, X) L w g) : w.cell? ⟨R, 9, none⟩ = some (.bool g.o) := by
  obtain ⟨T, v, h, hX, hL⟩ := h
  exact h.cell.2.2.2.2.2.2.2.2.2.1
theorem Gch.setPc (h : Gch B R mt w0 (F, X) L w g) (e : Int) : ∃ F' L', Gch B R mt w0 (F', none) L' (w.setCell ⟨R, 0, none⟩ (.int .i64 e)) (Rg.at_ e g) := by
  obtain ⟨T, v, h, hX, hL⟩ := h
  exact ⟨_, _, _, _, (h.setPc e).unbox, ⟨rfl, rfl⟩, rfl⟩
theorem Gch.setPcD (h : Gch B R mt w0 (F, X) L w g) (e : Int) : ∃ F' L', Gch B R mt w0 (F', none) L' (w.setCell ⟨R, 0, none⟩ (.int .i64 e)).drew (Rg.at_ e g) := by
  obtain ⟨F', L', h⟩ := h.setPc e
  exact ⟨F', L', h.drew⟩
/- what a walk needs at its start -/
theorem Gch.start (h : Gch B R mt w0 (F, X) L w g) (i : Mc.Ins) (hp : DoOk g i) : ∃ q cap k, F = .slice (some ⟨q, 0, none⟩) (k + 1) cap ∧ g.s.gs.length = k ∧ k ≤ 24 ∧ k + 1 ≤ cap ∧ cap ≤ 9223372036854775807 ∧ q < w.heap.size ∧ R < w.heap.size ∧ w.cell? ⟨R, 0, none⟩ = some (.int .i64 g.s.pc) ∧ w.cell? ⟨R, 2, none⟩ = some (.slice (some ⟨q, 0, none⟩) (k + 1) cap) ∧
    0 ≤ g.s.pc ∧ g.s.pc ≤ 2048 ∧ IntKind.i64.wrap (((k + 1 : Nat) : Int) - 1) = (k : Int) ∧ Hid (∀ n, Gch B R mt w0 (F, some (w.heap.size, bxOf i)) L ((w.alloc (bxOf i)).drewN n) g) := by
  have hc := h
  obtain ⟨T, v, h, hX, hL⟩ := h
  obtain ⟨q, cap, ta, lc, hv, h1, h2, _, hql, _, _, _, _, _, _⟩ := h.top
  unfold maxLen at h2
  have hF : F = .slice (some ⟨q, 0, none⟩) (g.s.gs.length + 1) cap := hX.1.symm.trans hv
  have hgs := hp.gs
  refine ⟨q, cap, g.s.gs.length, hF, rfl, hp.gs, h1, by omega, hql, h.ltR, h.cell.1, ?_, hp.pc.1, hp.pc.2, by rw [IntKind.wrap_i64] <;> omega, fun n => (hc.box (bxOf i)).drewN n⟩
  rw [h.cell.2.2.1, hv]
/- a cell of the top frame's locals, of the data -/
theorem Gch.topLo {q k cap n : Nat} (h : Gch B R mt w0 (F, X) L w g) (hF : F = .slice (some ⟨q, 0, none⟩) (k + 1) cap) (hk : g.s.gs.length = k) (hn : n < g.s.lo.length) :
    ∃ lq lc, w.cell? ⟨q, k * 2, none⟩ = some (.slice (some ⟨lq, 0, none⟩) g.s.lo.length lc) ∧ w.cell? ⟨lq, n, none⟩ = some (.int .i64 (g.s.lo.getD n 0)) ∧ w.frozen? ⟨lq, n, none⟩ = false ∧ lq < w.heap.size ∧ q < w.heap.size ∧ g.s.lo.length ≤ 2048 ∧
      ∀ x, Gch B R mt w0 (F, X) L (w.setCell ⟨lq, n, none⟩ (.int .i64 x)) ⟨{ g.s with lo := g.s.lo.set n x }, g.o⟩ := by
  obtain ⟨T, v, h, hX, hL⟩ := h
  obtain ⟨q', cap', ta, lc, hv, _, _, _, hql, _, _, t0, _, hlv, hown⟩ := h.top
  have e := hX.1.symm.trans hv
  simp only at e
  rw [hF] at e
  simp only [Value.slice.injEq, Option.some.injEq, Addr.mk.injEq] at e
  obtain ⟨⟨rfl, -, -⟩, -, -⟩ := e
  obtain ⟨lq, lc', hv2, _, _, _, hll, _, hfz, hcell⟩ := hown.place (by omega)
  simp only [Value.slice.injEq] at hv2
  obtain ⟨rfl, -, rfl⟩ := hv2
  subst hk
  exact ⟨lq, lc, by rw [Nat.mul_comm]; exact t0, hcell n _ (ints_get _ n hn), hfz n, hll, hql, h.blo, fun x => ⟨T, v, h.cellLo hlv n x, hX, hL⟩⟩
theorem Gch.data {n : Nat} (h : Gch B R mt w0 (F, X) L w g) (hn : n < g.s.data.length) :
    ∃ lq lc, w.cell? ⟨R, 3, none⟩ = some (.slice (some ⟨lq, 0, none⟩) g.s.data.length lc) ∧ w.cell? ⟨lq, n, none⟩ = some (.int .i64 (g.s.data.getD n 0)) ∧ w.frozen? ⟨lq, n, none⟩ = false ∧ lq < w.heap.size ∧ R < w.heap.size ∧ g.s.data.length ≤ 512 ∧
      ∀ x, Gch B R mt w0 (F, X) L (w.setCell ⟨lq, n, none⟩ (.int .i64 x)) ⟨{ g.s with data := g.s.data.set n x }, g.o⟩ := by
  obtain ⟨T, v, h, hX, hL⟩ := h
  obtain ⟨lq, lc, hv, _, _, _, hll, _, hfz, hcell⟩ := h.da.place (by omega)
  exact ⟨lq, lc, by rw [← hv]; exact h.cell.2.2.2.1, hcell n _ (ints_get _ n hn), hfz n, hll, h.ltR, h.bda, fun x => ⟨T, v, h.cellDa hv n x, hX, hL⟩⟩
end

section
variable {P : Program} {ops : Array Oper} {o : Oper} {a : Act} {w : World} {K : Act → World → Prop} {Q : Exit → Act → World → Prop} {E : Prop}
theorem step_callR (hgd : o.guard = none) (f : FuncId) (xs : Array Operand) (tys : Array TypeId) (ho : o.op = .call { callee := .value (.func f), args := xs, argTypes := tys })
    (hen : Enters P f) (vs : Array Value) (hx : xs.map a.eval = vs) (u : Value) {R : World → Prop} (hC : Calls P f vs w fun e w' => e = .returned u ∧ R w') (h : ∀ w', R w' → K (a.put o.dst u) w') : if Region.wanted o (yielded ops a.tmps) = true then Oper.wp P o a w K Q else E :=
  step_callE hgd f xs tys ho hen vs hx hC (fun _ h => by cases h.1) (fun _ _ h => by cases h.1) (fun v w' hv => by cases hv.1; exact h w' hv.2)
end
theorem en24 : Enters Try.prog 24 := enters_of Try.func24 (by kernel_rfl) rfl

/- what of the frames' number stays -/
theorem stop_gs (e : Int) (g : Rg.G) : (Rg.stop e g).s.gs = g.s.gs := by unfold Rg.stop; split <;> rfl
theorem pop_gs (g : Rg.G) : (Rg.pop g).2.s.gs = g.s.gs := by
  unfold Rg.pop; split
  · rfl
  · exact stop_gs 6 g
theorem stop_lo (e : Int) (g : Rg.G) : (Rg.stop e g).s.lo = g.s.lo := by unfold Rg.stop; split <;> rfl
theorem loc_no {a : Int} {g : Rg.G} (h : (Rg.loc a g).o = false) : Rg.loc a g = g ∧ g.o = false ∧ 0 ≤ a ∧ a < g.s.lo.length := by
  by_cases c : Mc.inB g.s.lo a = true
  · have e : Rg.loc a g = g := if_pos c
    rw [e] at h
    simp only [Mc.inB, Bool.and_eq_true, decide_eq_true_eq] at c
    exact ⟨e, h, c.1, c.2⟩
  · have e : Rg.loc a g = Rg.stop 6 g := if_neg c
    rw [e, stop_over] at h
    cases h
theorem dat_no {a : Int} {g : Rg.G} (h : (Rg.dat a g).o = false) : Rg.dat a g = g ∧ g.o = false ∧ 0 ≤ a ∧ a < g.s.data.length := by
  by_cases c : Mc.inB g.s.data a = true
  · have e : Rg.dat a g = g := if_pos c
    rw [e] at h
    simp only [Mc.inB, Bool.and_eq_true, decide_eq_true_eq] at c
    exact ⟨e, h, c.1, c.2⟩
  · have e : Rg.dat a g = Rg.stop 6 g := if_neg c
    rw [e, stop_over] at h
    cases h

set_option maxHeartbeats 400000 in
theorem gdo1 (B R : Nat) (mt : Int) (w0 : World) (F : Value) (L : List Value) (g : Rg.G) (a b : Int) (w : World) (h : Gch B R mt w0 (F, none) L w g) (hp : DoOk g ⟨1, a, b⟩) : GDoes B R mt w0 g ⟨1, a, b⟩ w := by
  obtain ⟨q, cap, k, hF, hk, hk24, hcap, hmax, hql, hRl, c0, c2, hpc0, hpc1, hw1, HB⟩ := h.start _ hp
  have HP : Hid (Rg.doI mt ⟨1, a, b⟩ g = Rg.at_ (g.s.pc + 1) (Rg.push a g)) := rfl
  have HC : Hid (∀ n, Calls Try.prog 24 #[.pointer (some ⟨R, 0, none⟩), .int .i64 a] ((w.alloc (bxOf ⟨1, a, b⟩)).drewN n) (GEnd B R mt w0 (F, some (w.heap.size, bxOf ⟨1, a, b⟩)) L (.tuple #[]) (Rg.push a g))) := fun n => gpush_any _ _ _ _ _ _ _ _ _ (HB.out n)
  clear h hp hF hk HB
  unfold GDoes
  go_enter Try.func20, Try.ntmps20
  go_wp2_with fail
  go_quiet ((fail))
  go_wp2_with fail
  refine (HC.out _).mono ?_
  rintro e w1 ⟨rfl, H1⟩
  obtain ⟨⟨x, k1⟩, k2, k3⟩ := H1.get
  have H1 := hid H1
  go_wp2_with fail
  go_end0
  exact ⟨rfl, by rw [HP.out]; exact H1.out.setPc _⟩

end Go.Proofs.Ytljdoholcdhkhaa
