/-
  The reference's peephole: its closures.
-/
import Derived.Test.YtpahhhhfhnpmjaaSa
namespace Go.Proofs.Ytpahhhhfhnpmjaa
open Go.RowKit Go.Shelf
set_option maxRecDepth 100000

def isB (c : List Mc.Ins) (i : Nat) (op : Int) : Bool := decide (i < c.length) && decide ((c.getD i Mc.dI).op = op)
theorem bare_isB (c : List Mc.Ins) (m : List Bool) (i : Nat) (op : Int) : Mc.bareB c m i op = (isB c i op && !(m.getD i true)) := rfl
set_option maxHeartbeats 800000 in
theorem is_any (x op : Int) (i : Nat) (hx : x = i) (cb g n gc : Nat) (c : List Mc.Ins) (w : World) (hc : w.cell? ⟨cb, 0, none⟩ = some (.slice (some ⟨g, 0, none⟩) n gc)) (hr : CRow w g c) (hn : c.length = n) :
    Calls Try.prog 19 #[.int .i64 x, .int .i64 op, .pointer (some ⟨cb, 0, none⟩)] w fun e w' => e = .returned (.bool (isB c i op)) ∧ w' = w := by
  subst hx
  by_cases hi : i < n
  · have o := hr.op i (by omega)
    have HE : Hid (isB c i op = ((c.getD i Mc.dI).op == op)) := by show _ = _; unfold isB; rw [hn]; simp [hi]; rfl
    rw [HE.out]
    clear HE hr
    generalize (c.getD i Mc.dI).op = y at *
    go_enter Try.func19, Try.ntmps19
    go_wp2_with fail
    go_ret
    exact ⟨rfl, rfl⟩
  · have HE : Hid (isB c i op = false) := by show _ = _; unfold isB; rw [hn]; simp [hi]
    rw [HE.out]
    clear HE hr
    go_enter Try.func19, Try.ntmps19
    go_wp2_with fail
    go_ret
    exact ⟨rfl, rfl⟩
set_option maxHeartbeats 800000 in
theorem bare_any (x op : Int) (i : Nat) (hx : x = i) (ib mb cb g m n gc : Nat) (c : List Mc.Ins) (mk : List Bool) (w : World) (hi : w.cell? ⟨ib, 0, none⟩ = some (.func (.func 19) #[] #[.pointer (some ⟨cb, 0, none⟩)])) (hm : w.cell? ⟨mb, 0, none⟩ = some (.slice (some ⟨m, 0, none⟩) n n)) (hc : w.cell? ⟨cb, 0, none⟩ = some (.slice (some ⟨g, 0, none⟩) n gc)) (hr : CRow w g c) (hk : BRow w m mk) (hn : c.length = n) (hmk : mk.length = n) :
    Calls Try.prog 20 #[.int .i64 x, .int .i64 op, .pointer (some ⟨ib, 0, none⟩), .pointer (some ⟨mb, 0, none⟩)] w fun e w' => e = .returned (.bool (Mc.bareB c mk i op)) ∧ w' = w := by
  subst hx
  have HI : Hid (Calls Try.prog 19 #[.int .i64 (i : Int), .int .i64 op, .pointer (some ⟨cb, 0, none⟩)] w fun e w' => e = .returned (.bool (isB c i op)) ∧ w' = w) := is_any i op i rfl cb g n gc c w hc hr hn
  rw [bare_isB]
  cases hb : isB c i op with
  | false =>
    rw [hb] at HI
    clear hb hr hk hn hmk hc
    go_enter Try.func20, Try.ntmps20
    go_wp2_with (go_at_call 19; refine HI.out.mono ?_; rintro e w' ⟨rfl, rfl⟩)
    go_ret
    exact ⟨rfl, rfl⟩
  | true =>
    rw [hb] at HI
    have hlt : i < n := by unfold isB at hb; simp at hb; omega
    have o := hk.cell i (by omega)
    generalize mk.getD i true = y at *
    clear hb hr hk hn hmk hc
    go_enter Try.func20, Try.ntmps20
    go_wp2_with (go_at_call 19; refine HI.out.mono ?_; rintro e w' ⟨rfl, rfl⟩)
    go_ret
    exact ⟨rfl, rfl⟩

/- what the reference's loop begins with -/
structure Pk (a : Option Addr) (cap : Nat) (was : List Mc.Ins) (d : Int) (w : World) (mb cb nb ib g gc m : Nat) (c : List Mc.Ins) (W : World) : Prop where
  hole : Hole W a g m was c (Mc.marks was)
  below : Below w.heap.size w W
  a0 : W.cell? ⟨w.heap.size, 0, none⟩ = some (.slice a was.length cap)
  a1 : W.cell? ⟨w.heap.size, 1, none⟩ = some (.int .i64 d)
  r0 : W.cell? ⟨w.heap.size + 1, 0, none⟩ = some (.slice none 0 0)
  r1 : W.cell? ⟨w.heap.size + 1, 1, none⟩ = some (.int .i64 0)
  q0 : W.frozen? ⟨w.heap.size + 1, 0, none⟩ = false
  q1 : W.frozen? ⟨w.heap.size + 1, 1, none⟩ = false
  bm : W.cell? ⟨mb, 0, none⟩ = some (.slice (some ⟨m, 0, none⟩) was.length was.length)
  bc : W.cell? ⟨cb, 0, none⟩ = some (.slice (some ⟨g, 0, none⟩) was.length gc)
  n0 : W.cell? ⟨nb, 0, none⟩ = some (.int .i64 21)
  n1 : W.cell? ⟨nb, 1, none⟩ = some (.int .i64 0)
  n2 : W.cell? ⟨nb, 2, none⟩ = some (.int .i64 0)
  bi : W.cell? ⟨ib, 0, none⟩ = some (.func (.func 19) #[] #[.pointer (some ⟨cb, 0, none⟩)])
  mg : ¬ mb = g
  cg : ¬ cb = g
  ng : ¬ nb = g
  ig : ¬ ib = g
  ml : mb < W.heap.size
  cl : cb < W.heap.size
  nl : nb < W.heap.size
  il : ib < W.heap.size
  gw : w.heap.size + 2 ≤ g
theorem Pk.look {a : Option Addr} {cap : Nat} {was : List Mc.Ins} {d : Int} {w : World} {mb cb nb ib g gc m : Nat} {c c' : List Mc.Ins} {W W' : World} (h : Pk a cap was d w mb cb nb ib g gc m c W) (hc : CRow W' g c') (hl : c'.length = c.length) (hg : W.grownBy W' (some g)) : Pk a cap was d w mb cb nb ib g gc m c' W' := by
  have hgw := h.gw
  have hgm := h.hole.gm
  have hz := h.below.size
  have hgl := h.hole.code.lt
  have k : ∀ b o, b < W.heap.size → ¬ b = g → W'.cell? ⟨b, o, none⟩ = W.cell? ⟨b, o, none⟩ := fun b o h1 h2 => World.cell?_of_block (a := ⟨b, o, none⟩) (hg.block b h1 (fun e => h2 (Option.some.inj e)))
  have kf : ∀ b o, b < W.heap.size → ¬ b = g → W'.frozen? ⟨b, o, none⟩ = W.frozen? ⟨b, o, none⟩ := fun b o h1 h2 => World.frozen?_of_block (a := ⟨b, o, none⟩) (hg.block b h1 (fun e => h2 (Option.some.inj e)))
  refine ⟨⟨?_, h.hole.apart, hc, h.hole.marks.kept hg (fun e => hgm (Option.some.inj e)), hgm, hl.trans h.hole.lc, h.hole.lm, h.hole.pos, h.hole.len⟩, below_grew h.below hg hz (fun k e => by have := Option.some.inj e; omega), (k _ _ (by omega) (by omega)).trans h.a0, (k _ _ (by omega) (by omega)).trans h.a1, (k _ _ (by omega) (by omega)).trans h.r0, (k _ _ (by omega) (by omega)).trans h.r1, (kf _ _ (by omega) (by omega)).trans h.q0, (kf _ _ (by omega) (by omega)).trans h.q1,
    (k _ _ h.ml h.mg).trans h.bm, (k _ _ h.cl h.cg).trans h.bc, (k _ _ h.nl h.ng).trans h.n0, (k _ _ h.nl h.ng).trans h.n1, (k _ _ h.nl h.ng).trans h.n2, (k _ _ h.il h.ig).trans h.bi, h.mg, h.cg, h.ng, h.ig, Nat.lt_of_lt_of_le h.ml hg.size, Nat.lt_of_lt_of_le h.cl hg.size, Nat.lt_of_lt_of_le h.nl hg.size, Nat.lt_of_lt_of_le h.il hg.size, hgw⟩
  rcases h.hole.old with h' | ⟨b, off, e, hl', h'⟩
  · exact Or.inl h'
  · have hbg := h.hole.apart b off e
    exact Or.inr ⟨b, off, e, Nat.lt_of_lt_of_le hl' hg.size, fun i hi => ⟨(k _ _ hl' hbg).trans (h' i hi).1, (k _ _ hl' hbg).trans (h' i hi).2.1, (k _ _ hl' hbg).trans (h' i hi).2.2⟩⟩
theorem Pk.is {a : Option Addr} {cap : Nat} {was : List Mc.Ins} {d : Int} {w : World} {mb cb nb ib g gc m : Nat} {c : List Mc.Ins} {W : World} (h : Pk a cap was d w mb cb nb ib g gc m c W) (x op : Int) (i : Nat) (hx : x = i) :
    Calls Try.prog 19 #[.int .i64 x, .int .i64 op, .pointer (some ⟨cb, 0, none⟩)] W fun e w' => e = .returned (.bool (isB c i op)) ∧ w' = W :=
  is_any x op i hx cb g was.length gc c W h.bc h.hole.code h.hole.lc
theorem Pk.bare {a : Option Addr} {cap : Nat} {was : List Mc.Ins} {d : Int} {w : World} {mb cb nb ib g gc m : Nat} {c : List Mc.Ins} {W : World} (h : Pk a cap was d w mb cb nb ib g gc m c W) (x op : Int) (i : Nat) (hx : x = i) :
    Calls Try.prog 20 #[.int .i64 x, .int .i64 op, .pointer (some ⟨ib, 0, none⟩), .pointer (some ⟨mb, 0, none⟩)] W fun e w' => e = .returned (.bool (Mc.bareB c (Mc.marks was) i op)) ∧ w' = W :=
  bare_any x op i hx ib mb cb g m was.length gc c (Mc.marks was) W h.bi h.bm h.bc h.hole.code h.hole.marks h.hole.lc h.hole.lm

end Go.Proofs.Ytpahhhhfhnpmjaa
