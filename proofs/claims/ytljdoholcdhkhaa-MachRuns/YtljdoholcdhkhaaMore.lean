/-
  With more steps the same comes: the statement MachMore, as a contract of its function: each call answers true and changes nothing that was there.
-/
import Derived.Test.YtljdoholcdhkhaaBeg
import Derived.Test.YtljdoholcdhkhaaPurc
namespace Go.Proofs.Ytljdoholcdhkhaa
open Go.RowKit Go.Shelf
set_option maxRecDepth 100000

theorem err_zero {code : List Mc.Ins} {d : Int} {inp : List Int} {ticks steps : Int} (h : (ansR code d inp ticks steps).err = 0) : errR code d inp.length ticks steps = 0 := by
  unfold ansR at h
  split at h
  · assumption
  · exact h
theorem err_more {code : List Mc.Ins} {d : Int} {n : Nat} {ticks s1 s2 : Int} (h : errR code d n ticks s1 = 0) (h1 : 0 ≤ s2) (h2 : s2 ≤ 134217728) : errR code d n ticks s2 = 0 := by
  obtain ⟨_, _, _, hn, ht, _⟩ := errR_zero h
  have hc : checkI code d = 0 := by
    unfold errR at h
    split at h
    · rename_i h1; exact absurd h h1
    · rename_i h1; simpa using h1
  unfold errR
  rw [hc, if_neg (by simp), if_neg (by omega), if_neg (by omega)]
theorem more_ans {code : List Mc.Ins} {d : Int} {inp : List Int} {ticks n k : Int} (h0 : (ansR code d inp ticks n).err = 0) (hk : 0 ≤ k) (hk1 : k < 16384) (hn : n ≤ 16384) :
    0 ≤ n ∧ (ansR code d inp ticks (n + k)).err = 0 ∧ (ansR code d inp ticks n).steps ≤ n ∧ (ansR code d inp ticks n).ticks ≤ ticks ∧ (ansR code d inp ticks n).out <+: (ansR code d inp ticks (n + k)).out ∧ ((ansR code d inp ticks n).en = 7 ∨ ansR code d inp ticks (n + k) = ansR code d inp ticks n) := by
  have e0 := err_zero h0
  obtain ⟨_, _, _, _, ht, hs⟩ := errR_zero e0
  have e1 := err_more e0 (s2 := n + k) (by omega) (by omega)
  have hm := Mc.run_more code ticks n (n + k) (by omega) (n.toNat + 1) ((n + k).toNat + 1) (startS d.toNat inp) (by show (0 : Int) ≤ n; omega) (by show (n - 0).toNat < _; omega) (by show (n + k - 0).toNat < _; omega)
  have ho := Mc.run_out ⟨code, ticks, n⟩ (n.toNat + 1) (startS d.toNat inp) (by show (0 : Int) ≤ n; omega)
  have htk := Mc.run_ticks ⟨code, ticks, n⟩ (n.toNat + 1) (startS d.toNat inp) (by show (0 : Int) ≤ ticks; omega)
  unfold ansR
  rw [if_pos e0, if_pos e1]
  refine ⟨hs.1, rfl, ho.2.2, htk, hm.1, ?_⟩
  by_cases h7 : (Mc.run ⟨code, ticks, n⟩ (n.toNat + 1) (startS d.toNat inp)).en = 7
  · exact Or.inl h7
  · right
    rw [hm.2 h7]

theorem bcell {W w1 : World} (hb : Below W.heap.size W w1) : (∀ b o, b < W.heap.size → w1.cell? ⟨b, o, none⟩ = W.cell? ⟨b, o, none⟩) ∧ (∀ b o, b < W.heap.size → w1.frozen? ⟨b, o, none⟩ = W.frozen? ⟨b, o, none⟩) :=
  ⟨fun b o h => hb.cell (p := ⟨b, o, none⟩) h, fun b o h => hb.frozen (p := ⟨b, o, none⟩) h⟩
theorem heap_set4 (w : World) (b : Nat) (x0 x1 x2 x3 : Value) (k : Nat) (h : k ≠ b) : ((((w.setCell ⟨b, 0, none⟩ x0).setCell ⟨b, 1, none⟩ x1).setCell ⟨b, 2, none⟩ x2).setCell ⟨b, 3, none⟩ x3).heap[k]? = w.heap[k]? := by
  rw [Below.heap_setCell _ _ _ k h, Below.heap_setCell _ _ _ k h, Below.heap_setCell _ _ _ k h, Below.heap_setCell _ _ _ k h]
theorem below_set4 {B : Nat} {a w : World} (h : Below B a w) (b : Nat) (hb : B ≤ b) (x0 x1 x2 x3 : Value) : Below B a ((((w.setCell ⟨b, 0, none⟩ x0).setCell ⟨b, 1, none⟩ x1).setCell ⟨b, 2, none⟩ x2).setCell ⟨b, 3, none⟩ x3) :=
  (((h.setCell (p := ⟨b, 0, none⟩) hb _).setCell (p := ⟨b, 1, none⟩) hb _).setCell (p := ⟨b, 2, none⟩) hb _).setCell (p := ⟨b, 3, none⟩) hb _
theorem NumsFrom.set4 {lo : Nat} {w : World} {a : Option Addr} {l : List Int} (h : NumsFrom lo w a l) (b : Nat) (hb : b < lo) (x0 x1 x2 x3 : Value) : NumsFrom lo ((((w.setCell ⟨b, 0, none⟩ x0).setCell ⟨b, 1, none⟩ x1).setCell ⟨b, 2, none⟩ x2).setCell ⟨b, 3, none⟩ x3) a l :=
  h.keep (by simp) (fun k h1 _ => heap_set4 w b x0 x1 x2 x3 k (by omega))
structure TailF (w W : World) (rb qb : Nat) (r q : Ans) (oa da qa qd : Option Addr) (oc dc qc qe : Nat) : Prop where
  r0 : W.cell? ⟨rb, 0, none⟩ = some (.int .i64 r.en)
  r1 : W.cell? ⟨rb, 1, none⟩ = some (.slice oa r.out.length oc)
  r2 : W.cell? ⟨rb, 2, none⟩ = some (.slice da r.data.length dc)
  r3 : W.cell? ⟨rb, 3, none⟩ = some (.int .i64 r.ticks)
  q0 : W.cell? ⟨qb, 0, none⟩ = some (.int .i64 q.en)
  q1 : W.cell? ⟨qb, 1, none⟩ = some (.slice qa q.out.length qc)
  q2 : W.cell? ⟨qb, 2, none⟩ = some (.slice qd q.data.length qe)
  q3 : W.cell? ⟨qb, 3, none⟩ = some (.int .i64 q.ticks)
  nr : NumsAt W oa r.out
  nd : NumsAt W da r.data
  nq : NumsAt W qa q.out
  ne : NumsAt W qd q.data
  below : Below w.heap.size w W
  rl : rb < W.heap.size
  ql : qb < W.heap.size
theorem TailF.later {w W W' : World} {rb qb : Nat} {r q : Ans} {oa da qa qd : Option Addr} {oc dc qc qe : Nat} (h : TailF w W rb qb r q oa da qa qd oc dc qc qe) (hb : Below W.heap.size W W') : TailF w W' rb qb r q oa da qa qd oc dc qc qe where
  r0 := (hb.cell (p := ⟨rb, 0, none⟩) h.rl).trans h.r0
  r1 := (hb.cell (p := ⟨rb, 1, none⟩) h.rl).trans h.r1
  r2 := (hb.cell (p := ⟨rb, 2, none⟩) h.rl).trans h.r2
  r3 := (hb.cell (p := ⟨rb, 3, none⟩) h.rl).trans h.r3
  q0 := (hb.cell (p := ⟨qb, 0, none⟩) h.ql).trans h.q0
  q1 := (hb.cell (p := ⟨qb, 1, none⟩) h.ql).trans h.q1
  q2 := (hb.cell (p := ⟨qb, 2, none⟩) h.ql).trans h.q2
  q3 := (hb.cell (p := ⟨qb, 3, none⟩) h.ql).trans h.q3
  nr := h.nr.later hb
  nd := h.nd.later hb
  nq := h.nq.later hb
  ne := h.ne.later hb
  below := h.below.trans (hb.mono h.below.size)
  rl := Nat.lt_of_lt_of_le h.rl hb.size
  ql := Nat.lt_of_lt_of_le h.ql hb.size
section
variable {w w2 w4 : World} {r q : Ans} {oa da qa qd : Option Addr} {oc dc qc qe lo : Nat}
theorem tail1 (hB2 : Below w.heap.size w w2) (hBW : Below w2.heap.size w2 w4) (hz : w2.heap.size < w4.heap.size) (r0 : w4.cell? ⟨w2.heap.size, 0, none⟩ = some (.int .i64 r.en)) (r1 : w4.cell? ⟨w2.heap.size, 1, none⟩ = some (.slice oa r.out.length oc)) (r2 : w4.cell? ⟨w2.heap.size, 2, none⟩ = some (.slice da r.data.length dc)) (r3 : w4.cell? ⟨w2.heap.size, 3, none⟩ = some (.int .i64 r.ticks))
    (hO : NumsAt w2 oa r.out) (hD : NumsAt w2 da r.data) (hQ : NumsFrom lo w4 qa q.out) (hE : NumsFrom lo w4 qd q.data) :
    TailF w (w4.alloc (.cells #[.int .i64 q.en, .slice qa q.out.length qc, .slice qd q.data.length qe, .int .i64 q.ticks] 28)) w2.heap.size w4.heap.size r q oa da qa qd oc dc qc qe := by
  have hb : Below w4.heap.size w4 (w4.alloc (.cells #[.int .i64 q.en, .slice qa q.out.length qc, .slice qd q.data.length qe, .int .i64 q.ticks] 28)) := (Below.refl _ _).alloc (Nat.le_refl _) _
  have hn := _root_.Go.heap_alloc_new w4 (.cells #[.int .i64 q.en, .slice qa q.out.length qc, .slice qd q.data.length qe, .int .i64 q.ticks] 28)
  exact {
    r0 := (hb.cell (p := ⟨w2.heap.size, 0, none⟩) hz).trans r0
    r1 := (hb.cell (p := ⟨w2.heap.size, 1, none⟩) hz).trans r1
    r2 := (hb.cell (p := ⟨w2.heap.size, 2, none⟩) hz).trans r2
    r3 := (hb.cell (p := ⟨w2.heap.size, 3, none⟩) hz).trans r3
    q0 := by rw [Lib.cell_of_heap hn]; rfl
    q1 := by rw [Lib.cell_of_heap hn]; rfl
    q2 := by rw [Lib.cell_of_heap hn]; rfl
    q3 := by rw [Lib.cell_of_heap hn]; rfl
    nr := (hO.later hBW).later hb
    nd := (hD.later hBW).later hb
    nq := hQ.at.later hb
    ne := hE.at.later hb
    below := (hB2.trans (hBW.mono hB2.size)).trans (hb.mono (Nat.le_trans hB2.size hBW.size))
    rl := by simp; omega
    ql := by simp }
theorem tail2 {x0 x1 x2 x3 : Value} (hB2 : Below w.heap.size w w2) (hBW : Below w2.heap.size w2 w4) (hz : w2.heap.size < w4.heap.size) (r0 : w4.cell? ⟨w2.heap.size, 0, none⟩ = some (.int .i64 r.en)) (r1 : w4.cell? ⟨w2.heap.size, 1, none⟩ = some (.slice oa r.out.length oc)) (r2 : w4.cell? ⟨w2.heap.size, 2, none⟩ = some (.slice da r.data.length dc)) (r3 : w4.cell? ⟨w2.heap.size, 3, none⟩ = some (.int .i64 r.ticks))
    (hO : NumsAt w2 oa r.out) (hD : NumsAt w2 da r.data) (hQ : NumsFrom lo w4 qa q.out) (hE : NumsFrom lo w4 qd q.data) (hlo : w2.heap.size + 1 < lo)
    (hx : w4.cell? ⟨w2.heap.size + 1, 0, none⟩ = some x0 ∧ w4.cell? ⟨w2.heap.size + 1, 1, none⟩ = some x1 ∧ w4.cell? ⟨w2.heap.size + 1, 2, none⟩ = some x2 ∧ w4.cell? ⟨w2.heap.size + 1, 3, none⟩ = some x3) :
    TailF w ((((w4.setCell ⟨w2.heap.size + 1, 0, none⟩ (.int .i64 q.en)).setCell ⟨w2.heap.size + 1, 1, none⟩ (.slice qa q.out.length qc)).setCell ⟨w2.heap.size + 1, 2, none⟩ (.slice qd q.data.length qe)).setCell ⟨w2.heap.size + 1, 3, none⟩ (.int .i64 q.ticks)) w2.heap.size (w2.heap.size + 1) r q oa da qa qd oc dc qc qe := by
  obtain ⟨y0, y1, y2, y3⟩ := hx
  have hl : w2.heap.size + 1 < w4.heap.size := World.block_lt_of_cell? w4 _ y0
  have hb2 := below_set4 hBW (w2.heap.size + 1) (Nat.le_succ _) (.int .i64 q.en) (.slice qa q.out.length qc) (.slice qd q.data.length qe) (.int .i64 q.ticks)
  have hr : ∀ j, ((((w4.setCell ⟨w2.heap.size + 1, 0, none⟩ (.int .i64 q.en)).setCell ⟨w2.heap.size + 1, 1, none⟩ (.slice qa q.out.length qc)).setCell ⟨w2.heap.size + 1, 2, none⟩ (.slice qd q.data.length qe)).setCell ⟨w2.heap.size + 1, 3, none⟩ (.int .i64 q.ticks)).cell? ⟨w2.heap.size, j, none⟩ = w4.cell? ⟨w2.heap.size, j, none⟩ := fun j => World.cell?_of_block (w := w4) (heap_set4 w4 _ _ _ _ _ _ (by show w2.heap.size ≠ w2.heap.size + 1; omega))
  exact {
    r0 := (hr 0).trans r0
    r1 := (hr 1).trans r1
    r2 := (hr 2).trans r2
    r3 := (hr 3).trans r3
    q0 := by
      rw [World.cell?_setCell_other _ _ _ _ (by simp), World.cell?_setCell_other _ _ _ _ (by simp), World.cell?_setCell_other _ _ _ _ (by simp)]
      exact World.cell?_setCell_same _ _ _ y0
    q1 := by
      rw [World.cell?_setCell_other _ _ _ _ (by simp), World.cell?_setCell_other _ _ _ _ (by simp)]
      exact World.cell?_setCell_same (u := x1) _ _ _ (by rw [World.cell?_setCell_other _ _ _ _ (by simp)]; exact y1)
    q2 := by
      rw [World.cell?_setCell_other _ _ _ _ (by simp)]
      exact World.cell?_setCell_same (u := x2) _ _ _ (by rw [World.cell?_setCell_other _ _ _ _ (by simp), World.cell?_setCell_other _ _ _ _ (by simp)]; exact y2)
    q3 := World.cell?_setCell_same (u := x3) _ _ _ (by rw [World.cell?_setCell_other _ _ _ _ (by simp), World.cell?_setCell_other _ _ _ _ (by simp), World.cell?_setCell_other _ _ _ _ (by simp)]; exact y3)
    nr := hO.later hb2
    nd := hD.later hb2
    nq := (hQ.set4 _ hlo _ _ _ _).at
    ne := (hE.set4 _ hlo _ _ _ _).at
    below := hB2.trans (hb2.mono hB2.size)
    rl := by simp; exact hz
    ql := by simp; exact hl }
end
theorem en6 : Enters Try.prog 6 := enters_of Try.func6 (by kernel_rfl) rfl
theorem en13 : Enters Try.prog 13 := enters_of Try.func13 (by kernel_rfl) rfl

set_option maxHeartbeats 6400000 in
theorem MachMore_c (a ia : Option Addr) (cap icap : Nat) (code : List Mc.Ins) (d : Int) (inp : List Int) (ticks steps more : Int) (w : World) (hT : ImgAt w a code) (hl : code.length ≤ 1000000000000000) (hfit : ∀ i ∈ code, InsFit i)
    (hI : NumsAt w ia inp) (hil : inp.length ≤ 1000000000000000) (hic : inp.length ≤ icap) (him : icap ≤ maxLen) (hmore : fit64 more) :
    Calls Try.prog 4 #[.agg #[.slice a code.length cap, .int .i64 d], .slice ia inp.length icap, .int .i64 ticks, .int .i64 steps, .int .i64 more] w fun e w' => e = .returned (.bool true) ∧ Below w.heap.size w w' := by
  have HR : Hid (∀ (W : World) (n : Int), Below w.heap.size w W → Calls Try.prog 6 #[.agg #[.slice a code.length cap, .int .i64 d], .slice ia inp.length icap, .int .i64 ticks, .int .i64 n] W fun e w' =>
      ∃ oa oc da dc, e = .returned (.tuple #[.agg #[.int .i64 (ansR code d inp ticks n).en, .slice oa (ansR code d inp ticks n).out.length oc, .slice da (ansR code d inp ticks n).data.length dc, .int .i64 (ansR code d inp ticks n).ticks], .int .i64 (ansR code d inp ticks n).steps, .int .i64 (ansR code d inp ticks n).err]) ∧
        NumsFrom W.heap.size w' oa (ansR code d inp ticks n).out ∧ NumsFrom W.heap.size w' da (ansR code d inp ticks n).data ∧ Below W.heap.size W w' ∧ (ansR code d inp ticks n).out.length ≤ oc ∧ (ansR code d inp ticks n).out.length ≤ 200 ∧ (ansR code d inp ticks n).data.length ≤ 512) := fun W n hb => Run_any a ia cap icap code d inp ticks n W (hT.later hb) hl hfit (hI.later hb) hil hic him
  have HM : Hid (∀ n k : Int, (ansR code d inp ticks n).err = 0 → 0 ≤ k → k < 16384 → n ≤ 16384 → 0 ≤ n ∧ (ansR code d inp ticks (n + k)).err = 0 ∧ (ansR code d inp ticks n).steps ≤ n ∧ (ansR code d inp ticks n).ticks ≤ ticks ∧ (ansR code d inp ticks n).out <+: (ansR code d inp ticks (n + k)).out ∧ ((ansR code d inp ticks n).en = 7 ∨ ansR code d inp ticks (n + k) = ansR code d inp ticks n)) := fun n k h0 h1 h2 h3 => more_ans h0 h1 h2 h3
  clear hT hI hfit hl hil him hic
  generalize hA : ansR code d inp ticks = A at *
  clear hA
  generalize code.length = cl at *
  generalize inp.length = il at *
  obtain ⟨hm0, hm1⟩ := hmore
  have hn : (if 16384 < steps then 16384 else steps) ≤ 16384 := by split <;> omega
  have HF : Hid (∀ W, Calls Try.prog 5 #[.int .i64 steps] W fun en w' => en = .returned (.int .i64 (if 16384 < steps then 16384 else steps)) ∧ w' = W) := fun W => few_any steps W
  generalize (if 16384 < steps then 16384 else steps) = n at *
  have HB1 : Hid (Below w.heap.size w (w.alloc (.cells #[.slice a cl cap, .int .i64 d] 24))) := (Below.refl _ _).alloc (Nat.le_refl _) _
  by_cases h0 : (A n).err = 0
  · have HR1 : Hid (∀ W, Below w.heap.size w W → Calls Try.prog 6 #[.agg #[.slice a cl cap, .int .i64 d], .slice ia il icap, .int .i64 ticks, .int .i64 n] W fun e w' =>
        ∃ oa oc da dc, e = .returned (.tuple #[.agg #[.int .i64 (A n).en, .slice oa (A n).out.length oc, .slice da (A n).data.length dc, .int .i64 (A n).ticks], .int .i64 (A n).steps, .int .i64 0]) ∧ NumsFrom W.heap.size w' oa (A n).out ∧ NumsFrom W.heap.size w' da (A n).data ∧ Below W.heap.size W w' ∧ (A n).out.length ≤ oc ∧ (A n).out.length ≤ 200 ∧ (A n).data.length ≤ 512) := fun W hb => by
      have := HR.out W n hb
      rw [h0] at this
      exact this
    have HM1 := hid (fun k => HM.out n k h0)
    have hn0 : 0 ≤ n := (HM.out n 0 h0 (by omega) (by omega) hn).1
    clear HM h0
    go_enter Try.func4, Try.ntmps4
    go_wp2_with fail
    refine (HF.out _).mono ?_
    rintro e w1 ⟨rfl, h1⟩
    obtain rfl := h1.symm
    go_wp2_with fail
    refine (HR1.out _ HB1.out).mono ?_
    rintro e w2 ⟨oa, oc, da, dc, rfl, hO, hD, hb2, hoc, hol, hdl⟩
    have HO := hid hO.at
    have HD := hid hD.at
    have HOC := hid hoc
    have HRl : Hid ((A n).out.length ≤ 1000000000000000) := Nat.le_trans hol (by decide)
    have HRd : Hid ((A n).data.length ≤ 1000000000000000) := Nat.le_trans hdl (by decide)
    clear hol hdl
    have hB2 : Below w.heap.size w w2 := HB1.out.trans (hb2.mono HB1.out.size)
    have hz2 : w.heap.size < w2.heap.size := by have := hb2.size; simp at this; omega
    have hne2 : w.heap.size ≠ w2.heap.size := by omega
    have i0 : w2.cell? ⟨w.heap.size, 0, none⟩ = some (.slice a cl cap) := (hb2.cell (p := ⟨w.heap.size, 0, none⟩) (by simp)).trans (by simp)
    have i1 : w2.cell? ⟨w.heap.size, 1, none⟩ = some (.int .i64 d) := (hb2.cell (p := ⟨w.heap.size, 1, none⟩) (by simp)).trans (by simp)
    clear hO hD hoc hb2 HR1
    generalize A n = r at *
    go_wp2_with fail
    go_region_law (first
      | (refine step_callE (by rfl) 13 _ _ (by rfl) en13 _ (by kernel_rfl) (choose_any more 16384 _ (by omega) (by omega) hm0 hm1) (fun w' h => by obtain ⟨⟨_, _, _, h⟩, _⟩ := h; cases h) (fun ch w' h => by obtain ⟨⟨_, _, _, h⟩, _⟩ := h; cases h) ?_; rintro _ w3 ⟨⟨k, hk0, hk1, hv⟩, rfl⟩; obtain rfl := (Ending.returned.inj hv); have hwr : IntKind.i64.wrap (n + k) = n + k := (by rw [IntKind.wrap_i64]; omega); have hk2 : n + k ≤ 40000 := (by omega); have hk3 : 0 ≤ n + k := (by omega); clear hv)
      | (refine step_callE (by rfl) 6 _ _ (by rfl) en6 _ (by kernel_rfl) (HR.out _ (n + k) (by go_grown)) (fun w' h => by obtain ⟨_, _, _, _, h, _⟩ := h; cases h) (fun ch w' h => by obtain ⟨_, _, _, _, h, _⟩ := h; cases h) ?_; rintro _ w4 ⟨qa, qc, qd, qe, hv, hQ, hQD, hb4, hqc, -, -⟩; obtain rfl := (Ending.returned.inj hv); obtain ⟨fc, ff⟩ := bcell hb4; have r0 : w4.cell? ⟨w2.heap.size, 0, none⟩ = some (.int .i64 r.en) := (fc _ _ (by simp; try omega)).trans (by simp); have r1 : w4.cell? ⟨w2.heap.size, 1, none⟩ = some (.slice oa r.out.length oc) := (fc _ _ (by simp; try omega)).trans (by simp); have r2 : w4.cell? ⟨w2.heap.size, 2, none⟩ = some (.slice da r.data.length dc) := (fc _ _ (by simp; try omega)).trans (by simp); have r3 : w4.cell? ⟨w2.heap.size, 3, none⟩ = some (.int .i64 r.ticks) := (fc _ _ (by simp; try omega)).trans (by simp); have hz4 : w2.heap.size < w4.heap.size := (by have := hb4.size; simp at this; omega); have hne4 : w2.heap.size ≠ w4.heap.size := (by omega); have hz5 : w2.heap.size < w4.heap.size + 1 := (by omega); (try have hz7 : w2.heap.size + 1 < w4.heap.size := (by have := hb4.size; simp at this; omega)); have HBW : Hid (Below w2.heap.size w2 w4) := (((by go_grown) : Below w2.heap.size w2 _).trans (hb4.mono (by simp; try omega))); have HQ := hid hQ; have HQD := hid hQD; have HQC := hid hqc; have HB4 := hid hb4; clear hv hQ hQD hqc))
    all_goals
      obtain ⟨-, e1, e2, e3, e4, e5⟩ := HM1.out k hk0 hk1 hn
      have hbe : ((A (n + k)).err != 0) = false := by rw [e1]; rfl
      have HE4 := hid e4
      have HE5 := hid e5
      have hqr : r.out.length ≤ (A (n + k)).out.length := e4.length_le
      have hqc : r.out.length ≤ qc := Nat.le_trans hqr HQC.out
      have HPre : Hid ((A (n + k)).out.take r.out.length = r.out) := (List.prefix_iff_eq_take.1 HE4.out).symm
      have HRL : Hid (r.out.length ≤ 1000000000000000) := HRl.out
      clear e1 e4 e5 HM1
      generalize A (n + k) = q at *
      go_wp2_with fail
    all_goals
      first
        | (have hx : w4.cell? ⟨w2.heap.size + 1, 0, none⟩ = some (.int .i64 0) ∧ w4.cell? ⟨w2.heap.size + 1, 1, none⟩ = some (.slice none 0 0) ∧ w4.cell? ⟨w2.heap.size + 1, 2, none⟩ = some (.slice none 0 0) ∧ w4.cell? ⟨w2.heap.size + 1, 3, none⟩ = some (.int .i64 0) := ?hx; (case hx => (have hb := fc (w2.heap.size + 1); refine ⟨(hb 0 ?_).trans ?_, (hb 1 ?_).trans ?_, (hb 2 ?_).trans ?_, (hb 3 ?_).trans ?_⟩; all_goals simp; done)); have HZ := hid (tail2 (x0 := .int .i64 0) (x1 := .slice none 0 0) (x2 := .slice none 0 0) (x3 := .int .i64 0) (q := q) (qc := qc) (qe := qe) hB2 HBW.out hz4 r0 r1 r2 r3 HO.out HD.out HQ.out HQD.out (by simp) hx); generalize (((w4.setCell ⟨w2.heap.size + 1, 0, none⟩ (.int .i64 q.en)).setCell ⟨w2.heap.size + 1, 1, none⟩ (.slice qa q.out.length qc)).setCell ⟨w2.heap.size + 1, 2, none⟩ (.slice qd q.data.length qe)).setCell ⟨w2.heap.size + 1, 3, none⟩ (.int .i64 q.ticks) = W5 at *; clear hx)
        | (have HZ := hid (tail1 (q := q) (qc := qc) (qe := qe) hB2 HBW.out hz4 r0 r1 r2 r3 HO.out HD.out HQ.out HQD.out); generalize w4.alloc (.cells #[.int .i64 q.en, .slice qa q.out.length qc, .slice qd q.data.length qe, .int .i64 q.ticks] 28) = W5 at *)
      clear r0 r1 r2 r3 fc ff HBW HO HD HQ HQD HB4 hb4 hz4 hz5 hne4 hz2 hne2 i0 i1 hB2 HR HF HB1
      try clear hz7
      have r0 := HZ.out.r0
      have r1 := HZ.out.r1
      have r3 := HZ.out.r3
      have q1 := HZ.out.q1
      go_quiet ((go_at_call 14; exact Calls.quiet_of (SameInts_same oa qa oc qc r.out _ HZ.out.nr (by rw [← HPre.out]; exact HZ.out.nq.take _) HRL.out)))
      go_wp2_with fail
      refine (machBegun_any _).mono ?_
      rintro e w6 ⟨rfl, hb6⟩
      have HY : Hid (TailF w w6 w2.heap.size _ r q oa da qa qd oc dc qc qe) := (HZ.out.later (W' := W5.drewN nq) (below_drewN (Below.refl _ _) nq)).later hb6
      clear hb6 HZ r0 r1 r3 q1
      have r0 := HY.out.r0
      have r1 := HY.out.r1
      have r2 := HY.out.r2
      have r3 := HY.out.r3
      have q0 := HY.out.q0
      have q1 := HY.out.q1
      have q2 := HY.out.q2
      have q3 := HY.out.q3
      by_cases h7 : r.en = 7
      · have h7' : (r.en == 7) = true := beq_iff_eq.2 h7
        clear h7
        go_wp2_with fail
        go_ret
        exact ⟨rfl, HY.out.below⟩
      · have hq : q = r := HE5.out.resolve_left h7
        subst hq
        have h7' : (q.en == 7) = false := beq_eq_false_iff_ne.2 h7
        clear h7
        go_wp2_with fail
        refine (SameResults_same q.en q.ticks oa qa da qd oc qc dc qe q.out q.data _ HY.out.nr HY.out.nq HY.out.nd HY.out.ne HRl.out HRd.out).mono ?_
        rintro e w7 ⟨rfl, hb7⟩
        go_wp2_with fail
        go_ret
        exact ⟨rfl, HY.out.below.trans (hb7.mono HY.out.below.size)⟩
  · have hb0 : ((A n).err != 0) = true := by rw [bne_iff_ne]; exact h0
    clear h0 HM
    have HR1 := hid (fun W hb => HR.out W n hb)
    generalize A n = r at *
    go_enter Try.func4, Try.ntmps4
    go_wp2_with fail
    refine (HF.out _).mono ?_
    rintro e w1 ⟨rfl, h1⟩
    obtain rfl := h1.symm
    go_wp2_with fail
    refine (HR1.out _ HB1.out).mono ?_
    rintro e w2 ⟨oa, oc, da, dc, rfl, -, -, hb2, -⟩
    have HB2 : Hid (Below w.heap.size w w2) := HB1.out.trans (hb2.mono HB1.out.size)
    go_wp2_with fail
    refine (machBegun_any _).mono ?_
    rintro e w3 ⟨rfl, hb3⟩
    go_wp2_with fail
    go_ret
    exact ⟨rfl, (HB2.out.alloc HB2.out.size _).trans (hb3.mono (by have := HB2.out.size; simp; omega))⟩

end Go.Proofs.Ytljdoholcdhkhaa
