/-
  The same modules are held the same.
-/
import Derived.Test.YtcekpobmbmnplaaGreatDoorVa
import Derived.BigRegion
namespace Go.Proofs.YtcekpobmbmnplaaGreatDoor
open Go.RowKit Go.Shelf

theorem below_drewNP {B : Nat} {a w : World} (h : Below B a w) (m : Nat) : Below B a (w.drewN m) := ⟨h.os, h.tape, h.output, h.size, h.block⟩
set_option maxRecDepth 100000 in
set_option maxHeartbeats 6400000 in
theorem sameModules_any (m : Mo) (v u : Value) (a1 : Option Addr) (c1 : Nat) (a2 : Option Addr) (c2 : Nat) (a3 : Option Addr) (c3 : Nat) (a4 : Option Addr) (c4 : Nat) (b1 : Option Addr) (d1 : Nat) (b2 : Option Addr) (d2 : Nat) (b3 : Option Addr) (d3 : Nat) (b4 : Option Addr) (d4 : Nat) (w : World) (hA : MoAt w Tt m v a1 c1 a2 c2 a3 c3 a4 c4) (hB : MoAt w Tt m u b1 d1 b2 d2 b3 d3 b4 d4) :
    Calls Tryz.prog 11 #[v, u] w fun e w' => e = .returned (.bool true) ∧ Below w.heap.size w w' := by
  obtain rfl := hA.val
  obtain rfl := hB.val
  have HA := hid hA
  have HB := hid hB
  have hb2 := hA.decls.bound
  have hb3 := hA.procs.bound
  obtain ⟨W0, hW0⟩ : ∃ W0, W0 = (w.alloc (.cells #[.string m.name, .slice a1 m.uses.length c1, .slice a2 m.decls.length c2, .slice a3 m.procs.length c3, .slice a4 m.main.length c4] 27)).alloc (.cells #[.string m.name, .slice b1 m.uses.length d1, .slice b2 m.decls.length d2, .slice b3 m.procs.length d3, .slice b4 m.main.length d4] 27) := ⟨_, rfl⟩
  have HBl : Hid (Below w.heap.size w W0) := by rw [hW0]; exact al2 _ _ _
  have HX1 : Hid (W0.heap[w.heap.size]? = some (.cells #[.string m.name, .slice a1 m.uses.length c1, .slice a2 m.decls.length c2, .slice a3 m.procs.length c3, .slice a4 m.main.length c4] 27 (0, 0))) := by rw [hW0]; exact heap_old (heap_newP _ _)
  have HX2 : Hid (W0.heap[w.heap.size + 1]? = some (.cells #[.string m.name, .slice b1 m.uses.length d1, .slice b2 m.decls.length d2, .slice b3 m.procs.length d3, .slice b4 m.main.length d4] 27 (0, 0))) := by
    rw [hW0]
    have e : ∀ o : Obj, (w.alloc o).heap.size = w.heap.size + 1 := fun o => by simp
    rw [← e (.cells #[.string m.name, .slice a1 m.uses.length c1, .slice a2 m.decls.length c2, .slice a3 m.procs.length c3, .slice a4 m.main.length c4] 27)]
    exact heap_newP _ _
  have hz0 : W0.heap.size = w.heap.size + 1 + 1 := by rw [hW0]; simp
  have hx1 : w.heap.size < W0.heap.size := by omega
  have hx2 : w.heap.size + 1 < W0.heap.size := by omega
  obtain ⟨x0, x1, x2, x3, x4, _⟩ := cellsOf5 HX1.out
  obtain ⟨y0, y1, y2, y3, y4, _⟩ := cellsOf5 HX2.out
  clear hA hB
  go_enter Tryz.func11, Tryz.ntmps11
  go_upto_region 1 with fail
  rw [← hW0]
  clear hW0
  go_wp2_with fail
  refine (sameTexts m.uses a1 b1 c1 d1 W0 (HA.out.uses.later HBl.out) (HB.out.uses.later HBl.out)).mono ?_
  rintro e w1 ⟨rfl, n1, rfl⟩
  go_wp2_with fail
  refine (sameBlocks_any m.main a4 b4 c4 d4 _ ((HA.out.main.later HBl.out).drewN n1) ((HB.out.main.later HBl.out).drewN n1)).mono ?_
  rintro e w2 ⟨rfl, n2, rfl⟩
  go_wp2_with fail
  go_loopw [5] (fun i wr => ∃ k n : Nat, k ≤ m.decls.length ∧ i = .int .i64 k ∧ wr = W0.drewN n) (fun i _ => m.decls.length - (intOf i).toNat)
  case atStart => exact ⟨0, _, Nat.zero_le _, rfl, by first | rfl | rw [World.drewN_drewN]⟩
  case round =>
    obtain ⟨k, n, hk, rfl, rfl⟩ := hrel
    by_cases hlt : k < m.decls.length
    · obtain ⟨e1, o1, rfl, h1⟩ := (HA.out.decls.later HBl.out).de k hlt
      obtain ⟨e2, o2, rfl, h2⟩ := (HB.out.decls.later HBl.out).de k hlt
      have q0 := h1.c0
      have q1 := h1.c1
      have q2 := h1.c2
      have q3 := h1.c3
      have r0 := h2.c0
      have r1 := h2.c1
      have r2 := h2.c2
      have r3 := h2.c3
      have z1 := h1.lt
      have z2 := h2.lt
      clear h1 h2
      go_wp2_with fail
      go_quiet ((fail))
      go_wp2_with fail
      go_roundw
      case rel => exact ⟨k + 1, _, by omega, by go_num, rfl⟩
      case measure => simp [intOf]; omega
    · have HBn : Hid (Below W0.heap.size W0 (W0.drewN n)) := below_drewNP (Below.refl _ _) n
      go_wp2_with fail
      go_loopw [6, 7, 8] (fun i _ _ wr => ∃ k : Nat, k ≤ m.procs.length ∧ i = .int .i64 k ∧ Below W0.heap.size W0 wr) (fun i _ _ _ => m.procs.length - (intOf i).toNat)
      case atStart => exact ⟨0, Nat.zero_le _, rfl, HBn.out⟩
      case round =>
        clear HBn
        obtain ⟨j, hj, rfl, hbr⟩ := hrel
        have HBr := hid hbr
        have hX1 := (hbr.block w.heap.size hx1).trans HX1.out
        have hX2 := (hbr.block (w.heap.size + 1) hx2).trans HX2.out
        have hxr1 : w.heap.size < wr.heap.size := Nat.lt_of_lt_of_le hx1 hbr.size
        have hxr2 : w.heap.size + 1 < wr.heap.size := Nat.lt_of_lt_of_le hx2 hbr.size
        clear x0 x1 x2 x3 x4 y0 y1 y2 y3 y4
        obtain ⟨x0, x1, x2, x3, x4, _⟩ := cellsOf5 hX1
        obtain ⟨y0, y1, y2, y3, y4, _⟩ := cellsOf5 hX2
        have HBw := hid (thenB HBl.out hbr)
        clear hX1 hX2
        by_cases hjl : j < m.procs.length
        · obtain ⟨e1, o1, p1, s1, p2, s2, p3, s3, rfl, h1⟩ := (HA.out.procs.later HBw.out).pr j hjl
          obtain ⟨e2, o2, p4, s4, p5, s5, p6, s6, rfl, h2⟩ := (HB.out.procs.later HBw.out).pr j hjl
          have H1 := hid h1
          have H2 := hid h2
          have q0 := h1.c0
          have q1 := h1.c1
          have q2 := h1.c2
          have q3 := h1.c3
          have q4 := h1.c4
          have r0 := h2.c0
          have r1 := h2.c1
          have r2 := h2.c2
          have r3 := h2.c3
          have r4 := h2.c4
          have z1 := h1.lt
          have z2 := h2.lt
          clear h1 h2 hbr
          go_wp2_with fail
          go_region
          · obtain ⟨W5, hW5⟩ : ∃ W5, W5 = ((wr.alloc (.cells #[.string m.procs[j].name, .bool m.procs[j].pub, .slice p1 m.procs[j].params.length s1, .slice p2 m.procs[j].locals.length s2, .slice p3 m.procs[j].body.length s3] 60)).alloc (.cells #[.string m.procs[j].name, .bool m.procs[j].pub, .slice p4 m.procs[j].params.length s4, .slice p5 m.procs[j].locals.length s5, .slice p6 m.procs[j].body.length s6] 60)).drew := ⟨_, rfl⟩
            have HB5 : Hid (Below wr.heap.size wr W5) := by rw [hW5]; exact (al2 _ _ _).drew
            have hz5 : W5.heap.size = wr.heap.size + 1 + 1 := by rw [hW5]; simp
            have hA5 : W5.heap[wr.heap.size]? = some (.cells #[.string m.procs[j].name, .bool m.procs[j].pub, .slice p1 m.procs[j].params.length s1, .slice p2 m.procs[j].locals.length s2, .slice p3 m.procs[j].body.length s3] 60 (0, 0)) := by rw [hW5]; exact heap_old (w := wr.alloc (.cells #[.string m.procs[j].name, .bool m.procs[j].pub, .slice p1 m.procs[j].params.length s1, .slice p2 m.procs[j].locals.length s2, .slice p3 m.procs[j].body.length s3] 60)) (heap_newP _ _)
            have hB5 : W5.heap[wr.heap.size + 1]? = some (.cells #[.string m.procs[j].name, .bool m.procs[j].pub, .slice p4 m.procs[j].params.length s4, .slice p5 m.procs[j].locals.length s5, .slice p6 m.procs[j].body.length s6] 60 (0, 0)) := by
              rw [hW5]
              have e : ∀ o : Obj, (wr.alloc o).heap.size = wr.heap.size + 1 := fun o => by simp
              rw [← e (.cells #[.string m.procs[j].name, .bool m.procs[j].pub, .slice p1 m.procs[j].params.length s1, .slice p2 m.procs[j].locals.length s2, .slice p3 m.procs[j].body.length s3] 60)]
              exact heap_newP _ _
            obtain ⟨g0, g1, g2, g3, g4, _⟩ := cellsOf5 hA5
            obtain ⟨i0, i1, i2, i3, i4, _⟩ := cellsOf5 hB5
            have hy1 : wr.heap.size < W5.heap.size := by omega
            have hy2 : wr.heap.size + 1 < W5.heap.size := by omega
            rw [← hW5]
            clear hW5 hA5 hB5
            go_wp2_with fail
            refine (sameTexts m.procs[j].params p1 p4 s1 s4 W5 (H1.out.params.later HB5.out) (H2.out.params.later HB5.out)).mono ?_
            rintro e w6 ⟨rfl, n6, rfl⟩
            go_wp2_with fail
            refine (sameTexts m.procs[j].locals p2 p5 s2 s5 _ ((H1.out.locals.later HB5.out).drewN n6) ((H2.out.locals.later HB5.out).drewN n6)).mono ?_
            rintro e w7 ⟨rfl, n7, rfl⟩
            go_wp2_with fail
            refine (sameBlocks_any m.procs[j].body p3 p6 s3 s6 _ ((H1.out.body.later HB5.out).drewN (n6 + n7)) ((H2.out.body.later HB5.out).drewN (n6 + n7))).mono ?_
            rintro e w8 ⟨rfl, n8, rfl⟩
            have HB8 := hid (below_drewNP (below_drewNP (HBr.out.trans (HB5.out.mono HBr.out.size)) (n6 + n7)) n8)
            generalize (W5.drewN (n6 + n7)).drewN n8 = W8 at *
            go_wp2_with fail
            go_roundw
            case rel => exact ⟨j + 1, by omega, by go_num, HB8.out⟩
            case measure => simp [intOf]; omega
          · obtain ⟨W5, hW5⟩ : ∃ W5, W5 = ((wr.alloc (.cells #[.string m.procs[j].name, .bool m.procs[j].pub, .slice p4 m.procs[j].params.length s4, .slice p5 m.procs[j].locals.length s5, .slice p6 m.procs[j].body.length s6] 60)).alloc (.cells #[.string m.procs[j].name, .bool m.procs[j].pub, .slice p1 m.procs[j].params.length s1, .slice p2 m.procs[j].locals.length s2, .slice p3 m.procs[j].body.length s3] 60)).drew := ⟨_, rfl⟩
            have HB5 : Hid (Below wr.heap.size wr W5) := by rw [hW5]; exact (al2 _ _ _).drew
            have hz5 : W5.heap.size = wr.heap.size + 1 + 1 := by rw [hW5]; simp
            have hA5 : W5.heap[wr.heap.size]? = some (.cells #[.string m.procs[j].name, .bool m.procs[j].pub, .slice p4 m.procs[j].params.length s4, .slice p5 m.procs[j].locals.length s5, .slice p6 m.procs[j].body.length s6] 60 (0, 0)) := by rw [hW5]; exact heap_old (w := wr.alloc (.cells #[.string m.procs[j].name, .bool m.procs[j].pub, .slice p4 m.procs[j].params.length s4, .slice p5 m.procs[j].locals.length s5, .slice p6 m.procs[j].body.length s6] 60)) (heap_newP _ _)
            have hB5 : W5.heap[wr.heap.size + 1]? = some (.cells #[.string m.procs[j].name, .bool m.procs[j].pub, .slice p1 m.procs[j].params.length s1, .slice p2 m.procs[j].locals.length s2, .slice p3 m.procs[j].body.length s3] 60 (0, 0)) := by
              rw [hW5]
              have e : ∀ o : Obj, (wr.alloc o).heap.size = wr.heap.size + 1 := fun o => by simp
              rw [← e (.cells #[.string m.procs[j].name, .bool m.procs[j].pub, .slice p4 m.procs[j].params.length s4, .slice p5 m.procs[j].locals.length s5, .slice p6 m.procs[j].body.length s6] 60)]
              exact heap_newP _ _
            obtain ⟨g0, g1, g2, g3, g4, _⟩ := cellsOf5 hA5
            obtain ⟨i0, i1, i2, i3, i4, _⟩ := cellsOf5 hB5
            have hy1 : wr.heap.size < W5.heap.size := by omega
            have hy2 : wr.heap.size + 1 < W5.heap.size := by omega
            rw [← hW5]
            clear hW5 hA5 hB5
            go_wp2_with fail
            refine (sameTexts m.procs[j].params p1 p4 s1 s4 W5 (H1.out.params.later HB5.out) (H2.out.params.later HB5.out)).mono ?_
            rintro e w6 ⟨rfl, n6, rfl⟩
            go_wp2_with fail
            refine (sameTexts m.procs[j].locals p2 p5 s2 s5 _ ((H1.out.locals.later HB5.out).drewN n6) ((H2.out.locals.later HB5.out).drewN n6)).mono ?_
            rintro e w7 ⟨rfl, n7, rfl⟩
            go_wp2_with fail
            refine (sameBlocks_any m.procs[j].body p3 p6 s3 s6 _ ((H1.out.body.later HB5.out).drewN (n6 + n7)) ((H2.out.body.later HB5.out).drewN (n6 + n7))).mono ?_
            rintro e w8 ⟨rfl, n8, rfl⟩
            have HB8 := hid (below_drewNP (below_drewNP (HBr.out.trans (HB5.out.mono HBr.out.size)) (n6 + n7)) n8)
            generalize (W5.drewN (n6 + n7)).drewN n8 = W8 at *
            go_wp2_with fail
            go_roundw
            case rel => exact ⟨j + 1, by omega, by go_num, HB8.out⟩
            case measure => simp [intOf]; omega
        · clear hbr
          go_wp2_with fail
          go_ret
          exact ⟨rfl, HBw.out⟩
end Go.Proofs.YtcekpobmbmnplaaGreatDoor
