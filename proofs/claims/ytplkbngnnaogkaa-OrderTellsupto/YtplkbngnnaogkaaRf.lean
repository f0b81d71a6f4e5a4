/-
  Lists of names put one behind the other.
-/
import Derived.Test.YtplkbngnnaogkaaRe
import Derived.Test.YtplkbngnnaogkaaOd
namespace Go.Proofs.Ytplkbngnnaogkaa
open Go.RowKit Go.Maps

theorem Try.infoStr : (Try.prog.info? 9).map (fun i => (i.zero, i.size, i.bytes)) = some (some (.string .empty), 1, 16) := by kernel_rfl
abbrev SOwn (w : World) (base : Nat) (v : Value) (xs : List ByteArray) : Prop := w.ownsRow base 9 1 v xs.length (xs.map .string)
theorem run_app (w : World) (base : Nat) (ty : TypeId) (v : Value) (xs : List ByteArray) (hown : SOwn w base v xs) (a : Option Addr) (cap : Nat) (ys : List ByteArray) (hD : DAt w Tt a ys.length (strsD ys)) (hb : xs.length + ys.length ≤ 4194304) (hbase : base ≤ w.heap.size) :
    ∃ v' w', (Builtin.append_ #[27, 27] ty #[v, .slice a ys.length cap]).run Try.prog w = .ok v' w' ∧ SOwn w' base v' (xs ++ ys) ∧ w.grownBy w' v.ownBlock := by
  obtain ⟨i0, hi, hz0, hz1, hz2⟩ := info_parts Try.infoStr
  have key : ∀ ad : Addr, (∀ j (h : j < ys.length), w.cell? (ad.add j) = some (.string ys[j])) → ∃ v' w', (Builtin.append_ #[27, 27] ty #[v, .slice (some ad) ys.length cap]).run Try.prog w = .ok v' w' ∧ SOwn w' base v' (xs ++ ys) ∧ w.grownBy w' v.ownBlock := by
    intro ad hc
    obtain ⟨v', w', hr, h2, h3, _⟩ := run_append_own_at (P := Try.prog) w base 27 ty 9 i0 (.string .empty) 1 16 Try.underlying27 hi hz0 hz1 hz2 rfl (by omega) v xs.length _ hown ad ys.length cap (ys.map .string) (by simp)
      (fun j u hu => by
        rw [List.getElem?_map] at hu
        obtain ⟨s, hs, rfl⟩ := Option.map_eq_some_iff.1 hu
        obtain ⟨hj, rfl⟩ := List.getElem?_eq_some_iff.1 hs
        exact hc j hj)
      (fun u hu => by obtain ⟨s, _, rfl⟩ := List.mem_map.1 hu; rfl) (by simp only [maxLen]; omega) (by omega) hbase
    refine ⟨v', w', hr, ?_, h3⟩
    unfold SOwn
    rw [List.map_append, List.length_append]
    exact h2
  by_cases h0 : 0 < ys.length
  · obtain ⟨b, off, rfl, _, _⟩ := hD.str 0 h0
    exact key ⟨b, off, none⟩ (fun j h => by
      obtain ⟨b', off', e, _, hc, _⟩ := hD.str j h
      cases e
      rw [show (⟨b, off, none⟩ : Addr).add j = ⟨b, off + j, none⟩ from by unfold Addr.add; split <;> simp_all]
      exact hc)
  · have hy : ys = [] := List.eq_nil_of_length_eq_zero (by omega)
    subst hy
    cases a with
    | some ad => exact key ad (fun j h => by simp at h)
    | none =>
      refine ⟨v, w, ?_, by rw [List.append_nil]; exact hown, ⟨rfl, rfl, rfl, Nat.le_refl _, fun _ _ _ => rfl⟩⟩
      rcases hown.2 with ⟨rfl, _⟩ | ⟨g, cp, cur, rfl, _, hg, hn, _⟩
      · simp [Builtin.append_, run_underlying Try.underlying27, sizeOf, typeInfo, hi, Builtin.lenOf, Builtin.firstCells]
      · simp [Builtin.append_, run_underlying Try.underlying27, sizeOf, typeInfo, hi, Builtin.lenOf, Builtin.firstCells, loadCells, storeCells, hn]
theorem SOwn.cell {w : World} {base : Nat} {v : Value} {xs : List ByteArray} (h : SOwn w base v xs) : ∃ a cap, v = .slice a xs.length cap ∧ ∀ j (hj : j < xs.length), ∃ b, a = some ⟨b, 0, none⟩ ∧ b < w.heap.size ∧ w.cell? ⟨b, j, none⟩ = some (.string xs[j]) := by
  obtain ⟨hl, h⟩ := h
  rcases h with ⟨rfl, h0⟩ | ⟨g, cap, cur, rfl, hb, hg, h1, h2, h3, h4⟩
  · exact ⟨none, 0, by rw [h0], fun j hj => by omega⟩
  · refine ⟨some ⟨g, 0, none⟩, cap, rfl, fun j hj => ⟨g, rfl, Nat.lt_of_not_le (fun hle => by rw [Array.getElem?_eq_none hle] at hg; cases hg), ?_⟩⟩
    rw [Lib.cell_of_heap hg]
    have := congrArg (fun l => l[j]?) h4
    simp only [Nat.mul_one] at this
    rw [List.getElem?_take, if_pos hj, List.getElem?_map, List.getElem?_eq_getElem hj] at this
    simpa using this
theorem step_append_run {P : Program} {ops : Array Oper} {o : Oper} {a : Act} {w w' : World} {K : Act → World → Prop} {Q : Exit → Act → World → Prop} {E : Prop} (hgd : o.guard = none) (s x : Operand) (t : TypeId)
    (ho : o.op = .call { callee := .builtin .append, args := #[s, x], argTypes := #[t, t] }) (v1 v2 v' : Value) (hs : a.eval s = v1) (hx : a.eval x = v2)
    (hr : (Builtin.append_ #[t, t] o.type #[v1, v2]).run P w = .ok v' w') (h : K (a.put o.dst v') w') :
    if Region.wanted o (yielded ops a.tmps) = true then Oper.wp P o a w K Q else E := by
  have hw : Region.wanted o (yielded ops a.tmps) = true := by simp [Region.wanted, hgd]
  rw [if_pos hw]
  unfold Oper.wp execOp
  simp only [ho, resolve, invoke, builtin, Sem.run_bind, Sem.run_pure, Result.andThen_ok, List.map_toArray, List.map_cons, List.map_nil, hs, hx, hr]
  exact h
end Go.Proofs.Ytplkbngnnaogkaa

namespace Go.Proofs.Ytplkbngnnaogkaa
open Go.RowKit Go.Maps

def nB (s : ByteArray) : Bool := !nameOk s
def dB1 (d : De) : Bool := !inB d.kind 1 3
def dB3 (d : De) : Bool := !nameOk d.name || ((d.kind == 1 && !inB d.n 0 1099511627775) || ((d.kind == 2 && d.n != 0) || (d.kind == 3 && !inB d.n 1 32)))
def pB1 (p : Pr) : Bool := bL 1 6 p.body
def pB2 (p : Pr) : Bool := (decide (3 < p.params.length) || decide (4 < p.locals.length)) || bL 2 6 p.body
def pB3 (p : Pr) : Bool := !nameOk p.name || (bL 3 6 p.body || (p.params ++ p.locals).any nB)
def mL1 (m : Mo) : Bool := (m.decls.any dB1 || (m.procs.any pB1 || bL 1 6 m.main))
def mL2 (m : Mo) : Bool := ((decide (3 < m.uses.length) || (decide (10 < m.decls.length) || decide (6 < m.procs.length))) || (m.procs.any pB2 || bL 2 6 m.main))
def mL3 (m : Mo) : Bool := (!nameOk m.name || (m.uses.any nB || (m.decls.any dB3 || (m.procs.any pB3 || bL 3 6 m.main))))
def Small (m : Mo) : Prop := ∀ p ∈ m.procs, p.params.length ≤ 1048576 ∧ p.locals.length ≤ 1048576
theorem Blk.c4 {w : World} {b : Nat} {u0 u1 u2 u3 : Value} (h : Blk w b [u0, u1, u2, u3]) : w.cell? ⟨b, 0, none⟩ = some u0 ∧ w.cell? ⟨b, 1, none⟩ = some u1 ∧ w.cell? ⟨b, 2, none⟩ = some u2 ∧ w.cell? ⟨b, 3, none⟩ = some u3 ∧ b < w.heap.size :=
  ⟨h.cell 0 _ rfl, h.cell 1 _ rfl, h.cell 2 _ rfl, h.cell 3 _ rfl, h.lt⟩
theorem names_two (w : World) (ps ls : List ByteArray) (a5 a6 : Option Addr) (c5 c6 : Nat) (h5 : DAt w Tt a5 ps.length (strsD ps)) (h6 : DAt w Tt a6 ls.length (strsD ls)) (hp : ps.length ≤ 1048576) (hl : ls.length ≤ 1048576) :
    ∃ v1 w5 a cap w6, (Builtin.append_ #[27, 27] 27 #[.slice (some ⟨w.heap.size, 0, none⟩) 0 0, .slice a5 ps.length c5]).run Try.prog (w.drew.alloc (.cells #[] 9)) = .ok v1 w5 ∧ Below w.heap.size w w5 ∧
      (Builtin.append_ #[27, 27] 27 #[v1, .slice a6 ls.length c6]).run Try.prog w5 = .ok (.slice a (ps ++ ls).length cap) w6 ∧ Below w.heap.size w w6 ∧
      ∀ j (hj : j < (ps ++ ls).length), ∃ b, a = some ⟨b, 0, none⟩ ∧ b < w6.heap.size ∧ w6.cell? ⟨b, j, none⟩ = some (.string (ps ++ ls)[j]) := by
  have hB0 : Below w.heap.size w (w.drew.alloc (.cells #[] 9)) := ((Below.refl _ _).drew).alloc (by simp) _
  have hown : SOwn (w.drew.alloc (.cells #[] 9)) w.heap.size (.slice (some ⟨w.heap.size, 0, none⟩) 0 0) [] :=
    ⟨rfl, Or.inr ⟨w.heap.size, 0, #[], rfl, Nat.le_refl _, heap_new w.drew _, Nat.le_refl _, by simp [maxLen], rfl, rfl⟩⟩
  obtain ⟨v1, w5, hr1, ho1, hg1⟩ := run_app _ w.heap.size 27 _ [] hown a5 c5 ps (h5.later hB0) (by simp; omega) (by simp)
  have hB5 : Below w.heap.size w w5 := hB0.grown hg1 (by simp) (fun k hk => by simp [Value.ownBlock] at hk; omega)
  have hk1 : ∀ k, v1.ownBlock = some k → w.heap.size ≤ k := by
    intro k hk
    rcases ho1.2 with ⟨rfl, _⟩ | ⟨g, cap, cur, rfl, hb, _⟩
    · simp [Value.ownBlock] at hk
    · simp [Value.ownBlock] at hk; omega
  obtain ⟨v2, w6, hr2, ho2, hg2⟩ := run_app w5 w.heap.size 27 v1 ([] ++ ps) ho1 a6 c6 ls (h6.later hB5) (by simp; omega) hB5.size
  have hB6 : Below w.heap.size w w6 := hB5.grown hg2 hB5.size hk1
  rw [List.nil_append] at ho2
  obtain ⟨a, cap, rfl, hc⟩ := ho2.cell
  exact ⟨v1, w5, a, cap, w6, hr1, hB5, hr2, hB6, hc⟩
end Go.Proofs.Ytplkbngnnaogkaa
