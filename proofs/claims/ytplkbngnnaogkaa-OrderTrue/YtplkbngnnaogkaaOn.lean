/-
  A row of modules of which one is written over.
-/
import Derived.Test.YtplkbngnnaogkaaOj
namespace Go.Proofs.Ytplkbngnnaogkaa
open Go.RowKit Go.Maps Go.Sort Go.WideMaps

def put5 (w : World) (g o : Nat) (v0 v1 v2 v3 v4 : Value) : World := ((((w.setCell ⟨g, o, none⟩ v0).setCell ⟨g, o + 1, none⟩ v1).setCell ⟨g, o + 2, none⟩ v2).setCell ⟨g, o + 3, none⟩ v3).setCell ⟨g, o + 4, none⟩ v4
theorem sc_oth {w : World} {b b' q q' : Nat} {u : Value} (h : b' ≠ b ∨ q' ≠ q) : (w.setCell ⟨b, q, none⟩ u).cell? ⟨b', q', none⟩ = w.cell? ⟨b', q', none⟩ :=
  World.cell?_setCell_other _ _ _ _ (by intro e; injection e with e1 e2; rcases h with h | h <;> omega)
theorem sc_same {w : World} {b q : Nat} {u x : Value} (h : w.cell? ⟨b, q, none⟩ = some x) : (w.setCell ⟨b, q, none⟩ u).cell? ⟨b, q, none⟩ = some u := World.cell?_setCell_same _ _ _ h
theorem put5_other {w : World} {g o b q : Nat} {v0 v1 v2 v3 v4 : Value} (h : b ≠ g ∨ q < o ∨ o + 5 ≤ q) : (put5 w g o v0 v1 v2 v3 v4).cell? ⟨b, q, none⟩ = w.cell? ⟨b, q, none⟩ := by
  unfold put5
  rw [sc_oth (by omega), sc_oth (by omega), sc_oth (by omega), sc_oth (by omega), sc_oth (by omega)]
theorem put5_cell {w : World} {g o : Nat} {v0 v1 v2 v3 v4 : Value} (h : ∀ r, r < 5 → ∃ u, w.cell? ⟨g, o + r, none⟩ = some u) : ∀ r u, [v0, v1, v2, v3, v4][r]? = some u → (put5 w g o v0 v1 v2 v3 v4).cell? ⟨g, o + r, none⟩ = some u := by
  obtain ⟨u0, h0⟩ := h 0 (by omega)
  obtain ⟨u1, h1⟩ := h 1 (by omega)
  obtain ⟨u2, h2⟩ := h 2 (by omega)
  obtain ⟨u3, h3⟩ := h 3 (by omega)
  obtain ⟨u4, h4⟩ := h 4 (by omega)
  intro r u hr
  unfold put5
  match r, hr with
  | 0, hr =>
    simp at hr; subst hr
    rw [sc_oth (by omega), sc_oth (by omega), sc_oth (by omega), sc_oth (by omega)]; exact sc_same h0
  | 1, hr =>
    simp at hr; subst hr
    rw [sc_oth (by omega), sc_oth (by omega), sc_oth (by omega)]; exact sc_same (x := u1) (by rw [sc_oth (by omega)]; exact h1)
  | 2, hr =>
    simp at hr; subst hr
    rw [sc_oth (by omega), sc_oth (by omega)]; exact sc_same (x := u2) (by rw [sc_oth (by omega), sc_oth (by omega)]; exact h2)
  | 3, hr =>
    simp at hr; subst hr
    rw [sc_oth (by omega)]; exact sc_same (x := u3) (by rw [sc_oth (by omega), sc_oth (by omega), sc_oth (by omega)]; exact h3)
  | 4, hr =>
    simp at hr; subst hr
    exact sc_same (x := u4) (by rw [sc_oth (by omega), sc_oth (by omega), sc_oth (by omega), sc_oth (by omega)]; exact h4)
  | r + 5, hr => simp at hr
theorem put5_frozen {w : World} {g o : Nat} {v0 v1 v2 v3 v4 : Value} (a : Addr) : (put5 w g o v0 v1 v2 v3 v4).frozen? a = w.frozen? a := by simp [put5]
theorem put5_size {w : World} {g o : Nat} {v0 v1 v2 v3 v4 : Value} : (put5 w g o v0 v1 v2 v3 v4).heap.size = w.heap.size := by simp [put5]
theorem set_below {B g q : Nat} {w wr : World} {u : Value} (h : Below B w wr) (hg : B ≤ g) : Below B w (wr.setCell ⟨g, q, none⟩ u) :=
  ⟨h.os, h.tape, h.output, by simpa using h.size, fun k hk => (Below.heap_setCell wr _ u k (by show k ≠ g; omega)).trans (h.block k hk)⟩
theorem put5_below {B g o : Nat} {w wr : World} {v0 v1 v2 v3 v4 : Value} (h : Below B w wr) (hg : B ≤ g) : Below B w (put5 wr g o v0 v1 v2 v3 v4) :=
  set_below (set_below (set_below (set_below (set_below h hg) hg) hg) hg) hg
theorem put5_blk {w : World} {g o b : Nat} {v0 v1 v2 v3 v4 : Value} {cs : List Value} (h : Blk w b cs) (hb : b ≠ g) : Blk (put5 w g o v0 v1 v2 v3 v4) b cs :=
  ⟨by rw [put5_size]; exact h.lt, fun j v hj => by rw [put5_other (Or.inl hb)]; exact h.cell j v hj⟩
/- modules in a row: the cells of each -/
structure MRow (w : World) (g n : Nat) (C : Nat → List Value) : Prop where
  lt : g < w.heap.size
  len : ∀ k, k < n → (C k).length = 5
  cell : ∀ k, k < n → ∀ r u, (C k)[r]? = some u → w.cell? ⟨g, k * 5 + r, none⟩ = some u
  fz : ∀ o, w.frozen? ⟨g, o, none⟩ = false
theorem MRow.put {w : World} {g n : Nat} {C : Nat → List Value} (h : MRow w g n C) (i : Nat) (hi : i < n) (v0 v1 v2 v3 v4 : Value) : MRow (put5 w g (i * 5) v0 v1 v2 v3 v4) g n (fun k => if k = i then [v0, v1, v2, v3, v4] else C k) := by
  refine ⟨by rw [put5_size]; exact h.lt, fun k hk => ?_, fun k hk r u hr => ?_, fun o => by rw [put5_frozen]; exact h.fz o⟩
  · by_cases e : k = i
    · simp [e]
    · simp only [if_neg e]; exact h.len k hk
  · by_cases e : k = i
    · subst e
      simp only [if_true] at hr
      refine put5_cell (fun r hr' => ?_) r u hr
      have hl := h.len k hk
      exact ⟨(C k)[r], h.cell k hk r _ (List.getElem?_eq_getElem (by omega))⟩
    · simp only [if_neg e] at hr
      have hl := h.len k hk
      have hr5 : r < 5 := by
        rcases Nat.lt_or_ge r 5 with h | h
        · exact h
        · rw [List.getElem?_eq_none (by omega)] at hr; cases hr
      rw [put5_other (by omega)]
      exact h.cell k hk r u hr
theorem MRow.later {w w' : World} {g n : Nat} {C : Nat → List Value} (h : MRow w g n C) (hb : Below w.heap.size w w') : MRow w' g n C :=
  ⟨Nat.lt_of_lt_of_le h.lt hb.size, h.len, fun k hk r u hr => (hb.cell (p := ⟨g, k * 5 + r, none⟩) h.lt).trans (h.cell k hk r u hr), fun o => (World.frozen?_of_block (a := ⟨g, o, none⟩) (hb.block g h.lt)).trans (h.fz o)⟩
theorem MRow.dat {w : World} {g : Nat} {L : List Mo} {C : Nat → List Value} (h : MRow w g L.length C) (hl : L.length ≤ 1000) (hd : ∀ k (hk : k < L.length), DVals w Tt L[k].ds (C k)) : DAt w Tt (some ⟨g, 0, none⟩) L.length (mosD L) :=
  dat_cells h.lt hl (fun k hk => ⟨C k, hd k hk, h.cell k hk⟩)
/- the cells of a module, as they came -/
theorem mo_cells {w : World} {b off : Nat} {L : List Mo} (h : DAt w Tt (some ⟨b, off, none⟩) L.length (mosD L)) : ∃ C : Nat → List Value, ∀ k (hk : k < L.length), (C k).length = 5 ∧ DVals w Tt L[k].ds (C k) ∧ ∀ r u, (C k)[r]? = some u → w.cell? ⟨b, off + (k * 5 + r), none⟩ = some u := by
  have key : ∀ k, ∃ cs : List Value, ∀ hk : k < L.length, cs.length = 5 ∧ DVals w Tt L[k].ds cs ∧ ∀ r u, cs[r]? = some u → w.cell? ⟨b, off + (k * 5 + r), none⟩ = some u := by
    intro k
    by_cases hk : k < L.length
    · obtain ⟨b1, off1, v, a1, c1, a2, c2, a3, c3, a4, c4, e, _, hM, k0, k1, k2, k3, k4⟩ := h.mo k hk
      injection e with e
      injection e with e1 e2
      subst e1
      subst e2
      refine ⟨[.string L[k].name, .slice a1 L[k].uses.length c1, .slice a2 L[k].decls.length c2, .slice a3 L[k].procs.length c3, .slice a4 L[k].main.length c4], fun _ => ⟨rfl, ?_, ?_⟩⟩
      · exact .cons (dstr hM.wna) (.cons hM.uses.val (.cons hM.decls.val (.cons hM.procs.val (.cons hM.main.val .nil))))
      · intro r u hr
        match r, hr with
        | 0, hr => simp at hr; subst hr; simpa [Nat.add_assoc] using k0
        | 1, hr => simp at hr; subst hr; simpa [Nat.add_assoc] using k1
        | 2, hr => simp at hr; subst hr; simpa [Nat.add_assoc] using k2
        | 3, hr => simp at hr; subst hr; simpa [Nat.add_assoc] using k3
        | 4, hr => simp at hr; subst hr; simpa [Nat.add_assoc] using k4
        | r + 5, hr => simp at hr
    · exact ⟨[], fun h' => (hk h').elim⟩
  exact ⟨fun k => (key k).choose, fun k hk => (key k).choose_spec hk⟩
theorem MRow.some {w : World} {g n : Nat} {C : Nat → List Value} (h : MRow w g n C) (k : Nat) (hk : k < n) (r : Nat) (hr : r < 5) : ∃ u, w.cell? ⟨g, k * 5 + r, none⟩ = some u := by
  have hl := h.len k hk
  exact ⟨(C k)[r], h.cell k hk r _ (List.getElem?_eq_getElem (by omega))⟩
theorem mo_vals {w : World} {m : Mo} {v : Value} {a1 a2 a3 a4 : Option Addr} {c1 c2 c3 c4 : Nat} (h : MoAt w Tt m v a1 c1 a2 c2 a3 c3 a4 c4) : DVals w Tt m.ds [.string m.name, .slice a1 m.uses.length c1, .slice a2 m.decls.length c2, .slice a3 m.procs.length c3, .slice a4 m.main.length c4] :=
  .cons (dstr h.wna) (.cons h.uses.val (.cons h.decls.val (.cons h.procs.val (.cons h.main.val .nil))))
end Go.Proofs.Ytplkbngnnaogkaa
