/-
  Check and Run answer what the document says: the statement MachRuns, as a contract of its function: each call answers true and changes nothing that was there.
-/
import Derived.Test.YtljdoholcdhkhaaHi
namespace Go.Proofs.Ytljdoholcdhkhaa
open Go.RowKit Go.Shelf
set_option maxRecDepth 100000

/- what lies there at the end -/
structure EndF (w W : World) (bb rb qb : Nat) (m0 m1 : Value) (r : Ans) (oa da qa qd : Option Addr) (oc dc qc qe : Nat) : Prop where
  t : TailF w W rb qb r r oa da qa qd oc dc qc qe
  i0 : W.cell? ⟨bb, 0, none⟩ = some m0
  i1 : W.cell? ⟨bb, 1, none⟩ = some m1
  bl : bb < W.heap.size
theorem EndF.later {w W W' : World} {bb rb qb : Nat} {m0 m1 : Value} {r : Ans} {oa da qa qd : Option Addr} {oc dc qc qe : Nat} (h : EndF w W bb rb qb m0 m1 r oa da qa qd oc dc qc qe) (hb : Below W.heap.size W W') : EndF w W' bb rb qb m0 m1 r oa da qa qd oc dc qc qe where
  t := h.t.later hb
  i0 := (hb.cell (p := ⟨bb, 0, none⟩) h.bl).trans h.i0
  i1 := (hb.cell (p := ⟨bb, 1, none⟩) h.bl).trans h.i1
  bl := Nat.lt_of_lt_of_le h.bl hb.size
abbrev RBlk (r : Ans) (oa da : Option Addr) (oc dc : Nat) : Obj := .cells #[.int .i64 r.en, .slice oa r.out.length oc, .slice da r.data.length dc, .int .i64 r.ticks] 28
abbrev ZBlk : Obj := .cells #[.int .i64 0, .slice none 0 0, .slice none 0 0, .int .i64 0] 28
theorem endF_mk {w w2 w3 w4 : World} {r : Ans} {m0 m1 : Value} {oa da qa qd : Option Addr} {oc dc qc qe : Nat} (hB2 : Below w.heap.size w w2) (hz2 : w.heap.size < w2.heap.size) (i0 : w2.cell? ⟨w.heap.size, 0, none⟩ = some m0) (i1 : w2.cell? ⟨w.heap.size, 1, none⟩ = some m1)
    (hb3 : Below (w2.alloc (RBlk r oa da oc dc)).heap.size (w2.alloc (RBlk r oa da oc dc)) w3) (hb4 : Below (w3.alloc ZBlk).heap.size (w3.alloc ZBlk) w4) (hO : NumsAt w2 oa r.out) (hD : NumsAt w2 da r.data) (hQ : NumsFrom (w3.alloc ZBlk).heap.size w4 qa r.out) (hE : NumsFrom (w3.alloc ZBlk).heap.size w4 qd r.data) :
    EndF w ((((w4.setCell ⟨w3.heap.size, 0, none⟩ (.int .i64 r.en)).setCell ⟨w3.heap.size, 1, none⟩ (.slice qa r.out.length qc)).setCell ⟨w3.heap.size, 2, none⟩ (.slice qd r.data.length qe)).setCell ⟨w3.heap.size, 3, none⟩ (.int .i64 r.ticks)) w.heap.size w2.heap.size w3.heap.size m0 m1 r oa da qa qd oc dc qc qe := by
  have z3 : w2.heap.size + 1 ≤ w3.heap.size := by have := hb3.size; simpa using this
  have z4 : w3.heap.size + 1 ≤ w4.heap.size := by have := hb4.size; simpa using this
  have b3 : Below w2.heap.size w2 w3 := ((Below.refl _ _).alloc (Nat.le_refl _) _).trans (hb3.mono (by simp))
  have b4 : Below w3.heap.size w3 w4 := ((Below.refl _ _).alloc (Nat.le_refl _) _).trans (hb4.mono (by simp))
  have b5 : Below w3.heap.size w3 ((((w4.setCell ⟨w3.heap.size, 0, none⟩ (.int .i64 r.en)).setCell ⟨w3.heap.size, 1, none⟩ (.slice qa r.out.length qc)).setCell ⟨w3.heap.size, 2, none⟩ (.slice qd r.data.length qe)).setCell ⟨w3.heap.size, 3, none⟩ (.int .i64 r.ticks)) := below_set4 b4 _ (Nat.le_refl _) _ _ _ _
  have kr : w3.heap[w2.heap.size]? = some (RBlk r oa da oc dc) := (hb3.block _ (by simp)).trans (_root_.Go.heap_alloc_new w2 _)
  have kr5 := (b5.block _ (by omega)).trans kr
  have kq : w4.heap[w3.heap.size]? = some ZBlk := (hb4.block _ (by simp)).trans (_root_.Go.heap_alloc_new w3 _)
  have kq5 := heap_set (i := 3) (heap_set (i := 2) (heap_set (i := 1) (heap_set (i := 0) kq (.int .i64 r.en)) (.slice qa r.out.length qc)) (.slice qd r.data.length qe)) (.int .i64 r.ticks)
  have b25 := b3.trans (b5.mono (by omega))
  have hz5 : w4.heap.size ≤ ((((w4.setCell ⟨w3.heap.size, 0, none⟩ (.int .i64 r.en)).setCell ⟨w3.heap.size, 1, none⟩ (.slice qa r.out.length qc)).setCell ⟨w3.heap.size, 2, none⟩ (.slice qd r.data.length qe)).setCell ⟨w3.heap.size, 3, none⟩ (.int .i64 r.ticks)).heap.size := by simp
  exact {
    t := {
      r0 := by rw [Lib.cell_of_heap kr5]; rfl
      r1 := by rw [Lib.cell_of_heap kr5]; rfl
      r2 := by rw [Lib.cell_of_heap kr5]; rfl
      r3 := by rw [Lib.cell_of_heap kr5]; rfl
      q0 := by rw [Lib.cell_of_heap kq5]; rfl
      q1 := by rw [Lib.cell_of_heap kq5]; rfl
      q2 := by rw [Lib.cell_of_heap kq5]; rfl
      q3 := by rw [Lib.cell_of_heap kq5]; rfl
      nr := hO.later b25
      nd := hD.later b25
      nq := (hQ.set4 w3.heap.size (by simp) _ _ _ _).at
      ne := (hE.set4 w3.heap.size (by simp) _ _ _ _).at
      below := hB2.trans (b25.mono hB2.size)
      rl := by omega
      ql := by omega }
    i0 := (b25.cell (p := ⟨w.heap.size, 0, none⟩) hz2).trans i0
    i1 := (b25.cell (p := ⟨w.heap.size, 1, none⟩) hz2).trans i1
    bl := by omega }
/- the same where nothing was stored -/
theorem endF_mk0 {w w2 w3 w4 : World} {r : Ans} {m0 m1 : Value} {oa da : Option Addr} {oc dc : Nat} (hB2 : Below w.heap.size w w2) (hz2 : w.heap.size < w2.heap.size) (i0 : w2.cell? ⟨w.heap.size, 0, none⟩ = some m0) (i1 : w2.cell? ⟨w.heap.size, 1, none⟩ = some m1)
    (hb3 : Below (w2.alloc (RBlk r oa da oc dc)).heap.size (w2.alloc (RBlk r oa da oc dc)) w3) (hr : r.en = 0 ∧ r.out = [] ∧ r.data = [] ∧ r.ticks = 0) (h4 : w4 = w3.alloc ZBlk) :
    EndF w w4 w.heap.size w2.heap.size w3.heap.size m0 m1 r oa da none none oc dc 0 0 := by
  subst h4
  obtain ⟨h1, h2, h3, h4⟩ := hr
  have z3 : w2.heap.size + 1 ≤ w3.heap.size := by have := hb3.size; simpa using this
  have b3 : Below w2.heap.size w2 w3 := ((Below.refl _ _).alloc (Nat.le_refl _) _).trans (hb3.mono (by simp))
  have b4 : Below w3.heap.size w3 (w3.alloc ZBlk) := (Below.refl _ _).alloc (Nat.le_refl _) _
  have kr : w3.heap[w2.heap.size]? = some (RBlk r oa da oc dc) := (hb3.block _ (by simp)).trans (_root_.Go.heap_alloc_new w2 _)
  have kr5 := (b4.block _ (by omega)).trans kr
  have kq5 := _root_.Go.heap_alloc_new w3 ZBlk
  have b25 := b3.trans (b4.mono (by omega))
  have hz5 := b4.size
  exact {
    t := {
      r0 := by rw [Lib.cell_of_heap kr5]; rfl
      r1 := by rw [Lib.cell_of_heap kr5]; rfl
      r2 := by rw [Lib.cell_of_heap kr5]; rfl
      r3 := by rw [Lib.cell_of_heap kr5]; rfl
      q0 := by rw [Lib.cell_of_heap kq5, h1]; rfl
      q1 := by rw [Lib.cell_of_heap kq5, h2]; rfl
      q2 := by rw [Lib.cell_of_heap kq5, h3]; rfl
      q3 := by rw [Lib.cell_of_heap kq5, h4]; rfl
      nr := Or.inl h2
      nd := Or.inl h3
      nq := Or.inl h2
      ne := Or.inl h3
      below := hB2.trans (b25.mono hB2.size)
      rl := by simp; omega
      ql := by simp }
    i0 := (b25.cell (p := ⟨w.heap.size, 0, none⟩) hz2).trans i0
    i1 := (b25.cell (p := ⟨w.heap.size, 1, none⟩) hz2).trans i1
    bl := by simp; omega }

theorem ref_err (code : List Mc.Ins) (d : Int) (n : Nat) (ticks N : Int) : errR code d n ticks N = if checkI code d = 0 then (if runErr n ticks = 0 then (if N < 0 ∨ 134217728 < N then 3 else 0) else runErr n ticks) else checkI code d := by
  unfold errR runErr
  by_cases h0 : checkI code d = 0
  · rw [if_neg (by simpa using h0), if_pos h0]
    by_cases h1 : 64 < n
    · rw [if_pos h1, if_pos h1]; rfl
    · rw [if_neg h1, if_neg h1]
      by_cases h2 : ticks < 0 ∨ 2000 < ticks
      · rw [if_pos (by omega), if_pos h2]; rfl
      · rw [if_neg h2, if_pos rfl]
        by_cases h3 : N < 0 ∨ 134217728 < N
        · rw [if_pos (by omega), if_pos h3]
        · rw [if_neg (by omega), if_neg h3]
  · rw [if_pos h0, if_neg h0]

end Go.Proofs.Ytljdoholcdhkhaa
