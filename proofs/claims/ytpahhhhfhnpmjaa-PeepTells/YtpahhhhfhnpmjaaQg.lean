/-
  The first rule that applies at a place: jumps.
-/
import Derived.Test.YtpahhhhfhnpmjaaQf
namespace Go.Proofs.Ytpahhhhfhnpmjaa
open Go.RowKit Go.Shelf
set_option maxRecDepth 100000

abbrev holeA (wa : Option Addr) (g m n wc gc mc : Nat) : Value := .agg #[.slice wa n wc, .slice (some ⟨g, 0, none⟩) n gc, .slice (some ⟨m, 0, none⟩) n mc]
/- what a look begins with: the hole in a box of its own -/
structure Lk (wa : Option Addr) (g m n wc gc mc : Nat) (was c : List Mc.Ins) (mk : List Bool) (i : Nat) (w W : World) : Prop where
  hole : Hole W wa g m was c mk
  below : Below w.heap.size w W
  lt : w.heap.size < W.heap.size
  x0 : W.cell? ⟨w.heap.size, 0, none⟩ = some (.slice wa n wc)
  x1 : W.cell? ⟨w.heap.size, 1, none⟩ = some (.slice (some ⟨g, 0, none⟩) n gc)
  x2 : W.cell? ⟨w.heap.size, 2, none⟩ = some (.slice (some ⟨m, 0, none⟩) n mc)
theorem Lk.next {wa : Option Addr} {g m n wc gc mc : Nat} {was c : List Mc.Ins} {mk : List Bool} {i : Nat} {w W W' : World} (h : Lk wa g m n wc gc mc was c mk i w W) (hb : Below W.heap.size W W') : Lk wa g m n wc gc mc was c mk i w W' :=
  ⟨h.hole.later hb, h.below.trans (hb.mono h.below.size), Nat.lt_of_lt_of_le h.lt hb.size, (hb.cell (p := ⟨w.heap.size, 0, none⟩) h.lt).trans h.x0, (hb.cell (p := ⟨w.heap.size, 1, none⟩) h.lt).trans h.x1, (hb.cell (p := ⟨w.heap.size, 2, none⟩) h.lt).trans h.x2⟩
theorem Lk.new {wa : Option Addr} {g m n wc gc mc : Nat} {was c : List Mc.Ins} {mk : List Bool} {i : Nat} {w : World} (h : Hole w wa g m was c mk) : Lk wa g m n wc gc mc was c mk i w (w.alloc (.cells #[.slice wa n wc, .slice (some ⟨g, 0, none⟩) n gc, .slice (some ⟨m, 0, none⟩) n mc] 47)) :=
  ⟨h.later ((Below.refl _ _).alloc (Nat.le_refl _) _), (Below.refl _ _).alloc (Nat.le_refl _) _, by simp, by simp, by simp, by simp⟩
theorem Lk.alloc {wa : Option Addr} {g m n wc gc mc : Nat} {was c : List Mc.Ins} {mk : List Bool} {i : Nat} {w W : World} (h : Lk wa g m n wc gc mc was c mk i w W) (o : Obj) : Lk wa g m n wc gc mc was c mk i w (W.alloc o) := h.next ((Below.refl _ _).alloc (Nat.le_refl _) _)
theorem Lk.drew {wa : Option Addr} {g m n wc gc mc : Nat} {was c : List Mc.Ins} {mk : List Bool} {i : Nat} {w W : World} (h : Lk wa g m n wc gc mc was c mk i w W) : Lk wa g m n wc gc mc was c mk i w W.drew := h.next ((Below.refl _ _).drew)
def FolSays (wa : Option Addr) (g m n wc gc mc : Nat) (i : Nat) (k : Nat) (b : Bool) (W : World) (ob : Nat) : Prop :=
  Calls Try.prog 31 #[.agg #[.slice wa n wc, .slice (some ⟨g, 0, none⟩) n gc, .slice (some ⟨m, 0, none⟩) n mc], .int .i64 i, .slice (some ⟨ob, 0, none⟩) k k] W fun e w' => e = .returned (.bool b) ∧ Below W.heap.size W w'
theorem fol_says {wa : Option Addr} {g m n wc gc mc : Nat} {was c : List Mc.Ins} {mk : List Bool} {i : Nat} {w W : World} (h : Lk wa g m n wc gc mc was c mk i w W) (hn : n = was.length) (hi : i < n) (ops : List Int) (k : Nat) (hk : ops.length = k) (h3 : k ≤ 3) (h1 : 0 < k) (b : Bool) (hb : followB c mk i ops = b) (ob : Nat) (ho : NumsAt W (some ⟨ob, 0, none⟩) ops) : FolSays wa g m n wc gc mc i k b W ob := by
  subst hk
  subst hb
  exact follow_any wa g m n wc gc mc was c mk i ops ob ops.length W h.hole hn hi ho h3 h1

/- the ways -/
theorem src2 (X : World) (y0 y1 : Mc.Ins) (t : TypeId) (n : Nat) (hn : n = X.heap.size) : ∀ j v, (cellsI y0 ++ cellsI y1)[j]? = some v → (X.alloc (.cells #[.int .i64 y0.op, .int .i64 y0.a, .int .i64 y0.b, .int .i64 y1.op, .int .i64 y1.a, .int .i64 y1.b] t)).cell? ⟨n, j, none⟩ = some v := by
  subst hn
  intro j v hj
  rw [Lib.cell_of_heap (_root_.Go.heap_alloc_new X _)]
  simpa [cellsI] using hj
theorem src3 (X : World) (y0 y1 y2 : Mc.Ins) (t : TypeId) (n : Nat) (hn : n = X.heap.size) : ∀ j v, (cellsI y0 ++ cellsI y1 ++ cellsI y2)[j]? = some v → (X.alloc (.cells #[.int .i64 y0.op, .int .i64 y0.a, .int .i64 y0.b, .int .i64 y1.op, .int .i64 y1.a, .int .i64 y1.b, .int .i64 y2.op, .int .i64 y2.a, .int .i64 y2.b] t)).cell? ⟨n, j, none⟩ = some v := by
  subst hn
  intro j v hj
  rw [Lib.cell_of_heap (_root_.Go.heap_alloc_new X _)]
  simpa [cellsI] using hj
def LayOk (wa : Option Addr) (g m n wc gc mc i k : Nat) (c' : List Mc.Ins) (W : World) (lb : Nat) : Prop :=
  Calls Try.prog 35 #[.agg #[.slice wa n wc, .slice (some ⟨g, 0, none⟩) n gc, .slice (some ⟨m, 0, none⟩) n mc], .int .i64 i, .slice (some ⟨lb, 0, none⟩) k k] W fun e w' => e = .returned (.tuple #[]) ∧ CRow w' g c' ∧ W.grownBy w' (some g)
theorem Lk.after {wa : Option Addr} {g m n wc gc mc : Nat} {was c : List Mc.Ins} {mk : List Bool} {i : Nat} {w W W' : World} (h : Lk wa g m n wc gc mc was c mk i w W) (hg : W.grownBy W' (some g)) (hgw : g < w.heap.size) :
    W'.cell? ⟨w.heap.size, 0, none⟩ = some (.slice wa n wc) ∧ W'.cell? ⟨w.heap.size, 1, none⟩ = some (.slice (some ⟨g, 0, none⟩) n gc) ∧ W'.cell? ⟨w.heap.size, 2, none⟩ = some (.slice (some ⟨m, 0, none⟩) n mc) := by
  have hb := hg.block w.heap.size h.lt (fun e => by have := Option.some.inj e; omega)
  exact ⟨(World.cell?_of_block (a := ⟨w.heap.size, 0, none⟩) hb).trans h.x0, (World.cell?_of_block (a := ⟨w.heap.size, 1, none⟩) hb).trans h.x1, (World.cell?_of_block (a := ⟨w.heap.size, 2, none⟩) hb).trans h.x2⟩
theorem Lk.ends {wa : Option Addr} {g m n wc gc mc : Nat} {was c : List Mc.Ins} {mk : List Bool} {i : Nat} {w W W' : World} (h : Lk wa g m n wc gc mc was c mk i w W) (hg : W.grownBy W' (some g)) : w.grownBy W' (some g) := grown_trans (grown_below _ h.below) hg

set_option maxHeartbeats 3200000 in
theorem look_short1 (wa : Option Addr) (g m n wc gc mc : Nat) (was c : List Mc.Ins) (mk : List Bool) (i : Nat) (w : World) (h : Hole w wa g m was c mk) (hn : n = was.length) (hi : i < n) (hF0 : followB c mk i [11] = true) :
    Calls Try.prog 17 #[.agg #[.slice wa n wc, .slice (some ⟨g, 0, none⟩) n gc, .slice (some ⟨m, 0, none⟩) n mc], .int .i64 i] w fun e w' => e = .returned (.tuple #[]) ∧ CRow w' g (Mc.lookAt was c mk i) ∧ w.grownBy w' (some g) := by
  have hlc : c.length = n := by rw [hn]; exact h.lc
  have hlen : n ≤ 2048 := by rw [hn]; exact h.len
  have HL := hid (look_jump (was := was) (by rw [hlc]; exact hi) (Or.inl hF0))
  have HF0 : Hid (∀ W ob, Lk wa g m n wc gc mc was c mk i w W → NumsAt W (some ⟨ob, 0, none⟩) [11] → FolSays wa g m n wc gc mc i 1 true W ob) := fun W ob hW ho => fol_says hW hn hi [11] 1 rfl (by omega) (by omega) true hF0 ob ho
  have HS : Hid (∀ W, Lk wa g m n wc gc mc was c mk i w W → Calls Try.prog 32 #[.agg #[.slice wa n wc, .slice (some ⟨g, 0, none⟩) n gc, .slice (some ⟨m, 0, none⟩) n mc], .int .i64 i] W fun e w' => e = .returned (.tuple #[]) ∧ CRow w' g (Mc.shorten was c i) ∧ W.grownBy w' (some g)) := fun W hW => shorten_any wa g m n wc gc mc was c mk i W hW.hole hn hi
  have hgw := h.code.lt
  have c1 := h.code.a i (by rw [hlc]; exact hi)
  have HK := hid (Lk.new (n := n) (wc := wc) (gc := gc) (mc := mc) (i := i) h)
  clear h hn hlc hF0
  generalize (c.getD i Mc.dI).a = an at *
  go_enter Try.func17, Try.ntmps17
  go_wp2_with fail
  refine (HF0.out _ _ (HK.out.alloc _) (nums1 _ 11 3 _ (by first | rfl | simp))).mono ?_
  rintro e w1 ⟨rfl, hb1⟩
  have HK1 := hid ((HK.out.alloc _).next hb1)
  clear hb1
  have y0 := HK1.out.x0
  have y1 := HK1.out.x1
  have y2 := HK1.out.x2
  go_wp2_with fail
  refine (HS.out _ HK1.out).mono ?_
  rintro e wf ⟨rfl, hc, hg⟩
  have HC := hid hc
  have HG := hid (HK1.out.ends hg)
  clear hc hg
  go_wp2_with fail
  go_returns
  exact ⟨rfl, by rw [HL.out]; exact HC.out, HG.out⟩

set_option maxHeartbeats 3200000 in
theorem look_short2 (wa : Option Addr) (g m n wc gc mc : Nat) (was c : List Mc.Ins) (mk : List Bool) (i : Nat) (w : World) (h : Hole w wa g m was c mk) (hn : n = was.length) (hi : i < n) (hF0 : followB c mk i [11] = false) (hF1 : followB c mk i [12] = true) :
    Calls Try.prog 17 #[.agg #[.slice wa n wc, .slice (some ⟨g, 0, none⟩) n gc, .slice (some ⟨m, 0, none⟩) n mc], .int .i64 i] w fun e w' => e = .returned (.tuple #[]) ∧ CRow w' g (Mc.lookAt was c mk i) ∧ w.grownBy w' (some g) := by
  have hlc : c.length = n := by rw [hn]; exact h.lc
  have hlen : n ≤ 2048 := by rw [hn]; exact h.len
  have HL := hid (look_jump (was := was) (by rw [hlc]; exact hi) (Or.inr hF1))
  have HF0 : Hid (∀ W ob, Lk wa g m n wc gc mc was c mk i w W → NumsAt W (some ⟨ob, 0, none⟩) [11] → FolSays wa g m n wc gc mc i 1 false W ob) := fun W ob hW ho => fol_says hW hn hi [11] 1 rfl (by omega) (by omega) false hF0 ob ho
  have HF1 : Hid (∀ W ob, Lk wa g m n wc gc mc was c mk i w W → NumsAt W (some ⟨ob, 0, none⟩) [12] → FolSays wa g m n wc gc mc i 1 true W ob) := fun W ob hW ho => fol_says hW hn hi [12] 1 rfl (by omega) (by omega) true hF1 ob ho
  have HS : Hid (∀ W, Lk wa g m n wc gc mc was c mk i w W → Calls Try.prog 32 #[.agg #[.slice wa n wc, .slice (some ⟨g, 0, none⟩) n gc, .slice (some ⟨m, 0, none⟩) n mc], .int .i64 i] W fun e w' => e = .returned (.tuple #[]) ∧ CRow w' g (Mc.shorten was c i) ∧ W.grownBy w' (some g)) := fun W hW => shorten_any wa g m n wc gc mc was c mk i W hW.hole hn hi
  have hgw := h.code.lt
  have c1 := h.code.a i (by rw [hlc]; exact hi)
  have HK := hid (Lk.new (n := n) (wc := wc) (gc := gc) (mc := mc) (i := i) h)
  clear h hn hlc hF0 hF1
  generalize (c.getD i Mc.dI).a = an at *
  go_enter Try.func17, Try.ntmps17
  go_wp2_with fail
  refine (HF0.out _ _ (HK.out.alloc _) (nums1 _ 11 3 _ (by first | rfl | simp))).mono ?_
  rintro e w1 ⟨rfl, hb1⟩
  have HK1 := hid ((HK.out.alloc _).next hb1)
  clear hb1
  have y0 := HK1.out.x0
  have y1 := HK1.out.x1
  have y2 := HK1.out.x2
  go_wp2_with fail
  refine (HF1.out _ _ (HK1.out.alloc _) (nums1 _ 12 3 _ (by first | rfl | simp))).mono ?_
  rintro e w2 ⟨rfl, hb2⟩
  have HK2 := hid ((HK1.out.alloc _).next hb2)
  clear hb2
  clear y0 y1 y2
  have y0 := HK2.out.x0
  have y1 := HK2.out.x1
  have y2 := HK2.out.x2
  go_wp2_with fail
  refine (HS.out _ HK2.out).mono ?_
  rintro e wf ⟨rfl, hc, hg⟩
  have HC := hid hc
  have HG := hid (HK2.out.ends hg)
  clear hc hg
  go_wp2_with fail
  go_returns
  exact ⟨rfl, by rw [HL.out]; exact HC.out, HG.out⟩

end Go.Proofs.Ytpahhhhfhnpmjaa
