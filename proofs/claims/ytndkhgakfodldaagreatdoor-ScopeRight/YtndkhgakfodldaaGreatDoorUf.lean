/-
  Package scope: expressions are resolved.
-/
import Derived.Test.YtndkhgakfodldaaGreatDoorUd
namespace Go.Proofs.YtndkhgakfodldaaGreatDoor
open Go.RowKit Go.Maps Go.WideMaps
set_option linter.unusedSimpArgs false

theorem Tryz.infoNode : (Tryz.prog.info? 253).map (fun i => (i.zero, i.size, i.bytes)) = some (some (.agg #[.int .i64 0, .int .i64 0, .int .i64 0, .int .i64 0, .slice none 0 0]), 5, 56) := by kernel_rfl
/- How a list that is resolved ends. -/
def rsEnd {α : Type} (lo : Nat) (len : List α → Nat) (ds : List α → List D) (r : Except Int (List α)) (e : Ending) (w : World) : Prop :=
  match r with
  | .error c => e = .returned (.tuple #[.slice none 0 0, .int .i64 c]) ∧ c ≠ 0
  | .ok l => ∃ a cap, e = .returned (.tuple #[.slice a (len l) cap, .int .i64 0]) ∧ EAt w (lo ≤ ·) a (len l) (ds l)
def NodesOk (l : List Ex) : Prop := ∀ (K : Kn) (L : Lc) (kv lv : Value) (A : Nat → Prop) (a : Option Addr) (cap : Nat) (w : World), KnAt w kv K → LcAt w lv L → DAt w A a l.length (exsD l) →
  Calls Tryz.prog 206 #[.agg #[kv, lv], .slice a l.length cap] w fun e w' => rsEnd w.heap.size List.length ndsD (rsEs K L l) e w' ∧ Below w.heap.size w w'
theorem alE_ok {a : Al} (h : a.err = 0) : alE a = .ok a := if_pos h
theorem alE_no {a : Al} (h : a.err ≠ 0) : alE a = .error a.err := if_neg h
theorem rsE_alone {K : Kn} {L : Lc} {x : Ex} (h : (ndM K L x).err ≠ 0) : rsE K L x = .error (ndM K L x).err := by rw [rsE_eq, alE_no h]; rfl
theorem rsE_args {K : Kn} {L : Lc} {x : Ex} {c : Int} (h : (ndM K L x).err = 0) (ha : rsEs K L x.args = .error c) : rsE K L x = .error c := by rw [rsE_eq, alE_ok h, ha]; rfl
theorem rsE_ok {K : Kn} {L : Lc} {x : Ex} {l : List Nd} (h : (ndM K L x).err = 0) (ha : rsEs K L x.args = .ok l) : rsE K L x = .ok (.mk (ndM K L x).op (ndM K L x).n (ndM K L x).m (ndM K L x).at_ l) := by rw [rsE_eq, alE_ok h, ha]; rfl
theorem nd_evals {A : Nat → Prop} {op n m at_ : Int} {l : List Nd} {w : World} {a : Option Addr} {cap : Nat} (h : EAt w A a l.length (ndsD l)) : EVals w A (Nd.mk op n m at_ l).ds [.int .i64 op, .int .i64 n, .int .i64 m, .int .i64 at_, .slice a l.length cap] := by
  unfold Nd.ds
  exact .cons eint (.cons eint (.cons eint (.cons eint (.cons h.val .nil))))
theorem cellsOf2 {w : World} {b : Nat} {x0 x1 : Value} {t : TypeId} (h : w.heap[b]? = some (.cells #[x0, x1] t (0, 0))) :
    w.cell? ⟨b, 0, none⟩ = some x0 ∧ w.cell? ⟨b, 1, none⟩ = some x1 ∧ ∀ i, w.frozen? ⟨b, i, none⟩ = false := by
  refine ⟨?_, ?_, fun i => Lib.frozen_of_heap h i⟩ <;> (rw [Lib.cell_of_heap h]; rfl)
set_option maxRecDepth 100000 in
set_option maxHeartbeats 3200000 in
theorem nodes_step (l : List Ex) (hl5 : l.length ≤ 5000) (ih : ∀ j (h : j < l.length), NodesOk l[j].args) : NodesOk l := by
  intro K L kv lv A a cap w hK hL hD
  have HK := hid hK
  have HL := hid hL
  have HD := hid hD
  have HI := hid ih
  clear hK hL hD ih
  go_enter Tryz.func206, Tryz.ntmps206
  go_wp2_with fail
  go_loopw [6, 8, 9, 10, 13] (fun v _ _ _ i wr => ∃ (j : Nat) (acc : List Nd), j ≤ l.length ∧ i = .int .i64 j ∧ acc.length = j ∧ rsEs K L (l.take j) = .ok acc ∧ Row (w.heap.size + 1) 253 5 wr v acc.length (ndsD acc) ∧ wr.heap[w.heap.size]? = some (.cells #[kv, lv] 195) ∧ Below w.heap.size w wr) (fun _ _ _ _ i _ => l.length - (intOf i).toNat)
  case atStart => exact ⟨0, [], Nat.zero_le _, rfl, rfl, by rw [List.take_zero, rsEs], Row.nil _ _ _ _, heap_newP _ _, al1 _ _⟩
  case round =>
    obtain ⟨j, acc, hj, rfl, hacc, hrs, hrow, hbx, hb⟩ := hrel
    have HR := hid hrs
    have HO := hid hrow
    have HX := hid hbx
    have HB := hid hb
    have hzr := hb.size
    have hxlt := lt_of_heap hbx
    clear hrs hrow hb
    by_cases hlt : j < l.length
    · obtain ⟨b, off, aa, cp, rfl, hx⟩ := (HD.out.later HB.out).ex j hlt
      have HIj := hid (HI.out j hlt)
      have HErr := hid (fun c (he : rsE K L l[j] = .error c) => rsEs_err hlt HR.out he)
      have HOk := hid (fun y (he : rsE K L l[j] = .ok y) => rsEs_snoc hlt HR.out he)
      obtain ⟨hbl, x0, x1, x2, x3, x4, hargs, _, _, hm, hn⟩ := hx
      have HA := hid hargs
      clear hargs
      generalize l[j] = x at *
      have HC := hid (nodeAlone_any K L kv lv x aa cp (wr.alloc (.cells #[.int .i64 x.op, .int .i64 x.n, .string x.mod, .string x.name, .slice aa x.args.length cp] 174)) (HK.out.later (thenB HB.out (al1 _ _))) (HL.out.later (thenB HB.out (al1 _ _))) hm hn)
      obtain ⟨bx0, bx1, hfz⟩ := cellsOf2 HX.out
      clear hm hn hbx
      go_wp2_with fail
      refine HC.out.mono ?_
      generalize hh : ndM K L x = h at *
      obtain ⟨ho, hn, hm, ha, he⟩ := h
      simp only [Al.node] at *
      rintro e w1 ⟨rfl, hb1⟩
      have HB1 := hid (thenB (al1 wr _) hb1)
      have hz1 := hb1.size
      simp at hz1
      have q1 : w1.heap[wr.heap.size]? = some (.cells #[.int .i64 x.op, .int .i64 x.n, .string x.mod, .string x.name, .slice aa x.args.length cp] 174) := (hb1.block _ (by simp)).trans (heap_newP _ _)
      have q2 := (HB1.out.block _ hxlt).trans HX.out
      obtain ⟨y0, y1, y2, y3, y4, y5⟩ := cellsOf5 q1
      obtain ⟨bx0', bx1', hfz'⟩ := cellsOf2 q2
      have HX1 := hid q2
      have hxl1 : w.heap.size < w1.heap.size := by omega
      have hwl1 : wr.heap.size < w1.heap.size := by omega
      clear hb1 HC q1 q2 bx0 bx1 hfz x0 x1 x2 x3 x4 y5 hfz'
      by_cases hee : he = 0
      · subst hee
        have HH := hid hh
        clear hh
        have HC2 := hid (HIj.out K L kv lv A aa cp (w1.alloc (.cells #[.int .i64 ho, .int .i64 hn, .int .i64 hm, .int .i64 ha, .slice none 0 0] 253)) (HK.out.later (thenB (thenB HB.out HB1.out) (al1 _ _))) (HL.out.later (thenB (thenB HB.out HB1.out) (al1 _ _))) (HA.out.later (thenB HB1.out (al1 _ _))))
        go_wp2_with fail
        refine HC2.out.mono ?_
        rintro e w2 ⟨hend, hb2⟩
        have hz2 := hb2.size
        simp at hz2
        have q3 : w2.heap[w1.heap.size]? = some (.cells #[.int .i64 ho, .int .i64 hn, .int .i64 hm, .int .i64 ha, .slice none 0 0] 253) := (hb2.block _ (by simp)).trans (heap_newP _ _)
        obtain ⟨z0, z1, z2, z3, z4, z5⟩ := cellsOf5 q3
        have HB2 := hid (thenB HB1.out (thenB (al1 _ _) hb2))
        have hwl2 : w1.heap.size < w2.heap.size := by omega
        clear hb2 HC2 q3
        cases hr : rsEs K L x.args with
        | error c =>
          rw [hr] at hend
          obtain ⟨rfl, hc⟩ := hend
          have HF := hid (HErr.out c (rsE_args (by rw [HH.out]) hr))
          clear hr
          go_wp2_with fail
          go_ret2
          exact ⟨by rw [HF.out]; exact ⟨rfl, hc⟩, (thenB HB.out HB2.out).setCell (p := ⟨w1.heap.size, 4, none⟩) (by show w.heap.size ≤ w1.heap.size; omega) _⟩
        | ok r =>
          rw [hr] at hend
          obtain ⟨a2, c2, rfl, hea⟩ := hend
          have HF := hid (HOk.out _ (rsE_ok (by rw [HH.out]) hr))
          rw [HH.out] at HF
          simp only [] at HF
          have HB3 : Hid (Below wr.heap.size wr (w2.setCell ⟨w1.heap.size, 4, none⟩ (.slice a2 r.length c2))) := HB2.out.setCell (p := ⟨w1.heap.size, 4, none⟩) (by show wr.heap.size ≤ w1.heap.size; omega) _
          have HO3 := hid (HO.out.later HB3.out)
          have HE3 : Hid (EVals (w2.setCell ⟨w1.heap.size, 4, none⟩ (.slice a2 r.length c2)) (w1.heap.size + 1 ≤ ·) (Nd.mk ho hn hm ha r).ds [.int .i64 ho, .int .i64 hn, .int .i64 hm, .int .i64 ha, .slice a2 r.length c2]) := nd_evals ((hea.moves ((Moves.refl w2 _).set (p := ⟨w1.heap.size, 4, none⟩) (by intro b _ hb; simp at hb; show b ≠ w1.heap.size; omega) _)).moves ⟨Nat.le_refl _, fun b _ h => ⟨by simp at h; exact h, rfl⟩⟩)
          have HLt := hid (fun k hk => (HO.out.lt k hk).2)
          have HX3 : Hid ((w2.setCell ⟨w1.heap.size, 4, none⟩ (.slice a2 r.length c2)).heap[w.heap.size]? = some (.cells #[kv, lv] 195)) := (HB3.out.block _ hxlt).trans HX.out
          have HZ3 : Hid ((w2.setCell ⟨w1.heap.size, 4, none⟩ (.slice a2 r.length c2)).heap.size = w2.heap.size) := World.size_setCell ..
          clear hea hr
          go_wp2_with (at_builtin; refine append_row rfl (.tmp 37) (.tmp 39) 107 rfl (w.heap.size + 1) 253 _ 5 56 Tryz.underlying107 Tryz.infoNode rfl (by decide) (w2.setCell ⟨w1.heap.size, 4, none⟩ (.slice a2 r.length c2)) u6 acc.length (ndsD acc) (Nd.mk ho hn hm ha r).ds rfl HO3.out #[.int .i64 ho, .int .i64 hn, .int .i64 hm, .int .i64 ha, .slice a2 r.length c2] _ HZ3.out.symm rfl rfl (w1.heap.size + 1 ≤ ·) HE3.out ?_ (by omega) (by decide) (by rw [HZ3.out]; omega) ?_)
          · intro b _ hb
            have hb' : w1.heap.size + 1 ≤ b := hb
            exact ⟨by omega, fun h => by have := HLt.out b h; omega⟩
          · intro g5 c5 w5 HO5 HB5 hz5
            have HO5' := hid HO5
            have HB5' := hid HB5
            clear HO5 HB5 HO3 HE3
            go_wp2_with fail
            go_roundw
            case rel => exact ⟨j + 1, acc ++ [Nd.mk ho hn hm ha r], by omega, by go_num, by simp [hacc], HF.out, by rw [ndsD_append, ndsD_one, List.length_append, hacc]; exact HO5'.out, (HB5'.out.block _ (by omega)).trans HX3.out, (thenB HB.out HB3.out).trans (HB5'.out.mono (by omega))⟩
            case measure => simp [intOf]; omega
      · have HF := hid (HErr.out he (by rw [rsE_alone (by rw [hh]; exact hee), hh]))
        clear hh
        go_wp2_with fail
        go_ret2
        exact ⟨by rw [HF.out]; exact ⟨rfl, hee⟩, thenB (thenB HB.out HB1.out) (al1 _ _)⟩
    · obtain rfl : j = l.length := by omega
      have HRl : Hid (rsEs K L l = .ok acc) := by have := HR.out; rw [List.take_length] at this; exact this
      obtain ⟨a5, c5, rfl, hea⟩ := HO.out.slice
      have HEA := hid hea
      clear hea hbx
      go_wp2_with fail
      go_ret2
      refine ⟨by rw [HRl.out]; exact ⟨a5, c5, rfl, HEA.out.moves ⟨Nat.le_refl _, fun b _ h => ⟨by have : w.heap.size + 1 ≤ b := h; show w.heap.size ≤ b; omega, rfl⟩⟩⟩, HB.out⟩
theorem nodes_any : ∀ (k : Nat) (l : List Ex), exMany k l = false → NodesOk l
  | 0, l, h => nodes_step l (by simp [exMany] at h; rw [h]; simp) (by simp [exMany] at h; subst h; intro j hj; simp at hj)
  | k + 1, l, h => by
    simp only [exMany, Bool.or_eq_false_iff] at h
    have h1 := of_decide_eq_false h.1
    refine nodes_step l (by omega) fun j hj => nodes_any k _ ?_
    have := h.2
    rw [List.any_eq_false] at this
    simpa using this l[j] (List.getElem_mem _)
end Go.Proofs.YtndkhgakfodldaaGreatDoor

namespace Go.Proofs.YtndkhgakfodldaaGreatDoor
open Go.RowKit Go.Maps Go.WideMaps
set_option linter.unusedSimpArgs false

theorem Tryz.infoAct : (Tryz.prog.info? 109).map (fun i => (i.zero, i.size, i.bytes)) = some (some (.agg #[.int .i64 0, .int .i64 0, .int .i64 0, .int .i64 0, .slice none 0 0, .slice none 0 0, .slice none 0 0]), 7, 104) := by kernel_rfl
def ActsOk (l : List St) : Prop := ∀ (K : Kn) (L : Lc) (kv lv : Value) (A : Nat → Prop) (a : Option Addr) (cap : Nat) (w : World), KnAt w kv K → LcAt w lv L → DAt w A a l.length (stsD l) →
  Calls Tryz.prog 121 #[.agg #[kv, lv], .slice a l.length cap] w fun e w' => rsEnd w.heap.size List.length acsD (rsSs K L l) e w' ∧ Below w.heap.size w w'
/- How a statement that is resolved ends. -/
def actEnd (lo : Nat) (r : Except Int Ac) (e : Ending) (w : World) : Prop :=
  match r with
  | .error c => ∃ o n m t a1 k1 c1 a2 k2 c2 a3 k3 c3, e = .returned (.tuple #[.agg #[.int .i64 o, .int .i64 n, .int .i64 m, .int .i64 t, .slice a1 k1 c1, .slice a2 k2 c2, .slice a3 k3 c3], .int .i64 c]) ∧ c ≠ 0
  | .ok y => ∃ a1 c1 a2 c2 a3 c3, e = .returned (.tuple #[.agg #[.int .i64 y.op, .int .i64 y.n, .int .i64 y.m, .int .i64 y.at_, .slice a1 y.args.length c1, .slice a2 y.body.length c2, .slice a3 y.other.length c3], .int .i64 0]) ∧
    EAt w (lo ≤ ·) a1 y.args.length (ndsD y.args) ∧ EAt w (lo ≤ ·) a2 y.body.length (acsD y.body) ∧ EAt w (lo ≤ ·) a3 y.other.length (acsD y.other)
def ActOk (x : St) : Prop := ∀ (K : Kn) (L : Lc) (kv lv : Value) (A : Nat → Prop) (a1 : Option Addr) (c1 : Nat) (a2 : Option Addr) (c2 : Nat) (a3 : Option Addr) (c3 : Nat) (w : World), KnAt w kv K → LcAt w lv L → x.mod.size ≤ maxLen → x.name.size ≤ maxLen →
  DAt w A a1 x.args.length (exsD x.args) → DAt w A a2 x.body.length (stsD x.body) → DAt w A a3 x.other.length (stsD x.other) →
  Calls Tryz.prog 162 #[.agg #[kv, lv], .agg #[.int .i64 x.op, .string x.mod, .string x.name, .slice a1 x.args.length c1, .slice a2 x.body.length c2, .slice a3 x.other.length c3]] w fun e w' => actEnd w.heap.size (rsS K L x) e w' ∧ Below w.heap.size w w'
theorem ac_evals {A : Nat → Prop} {y : Ac} {w : World} {a1 a2 a3 : Option Addr} {c1 c2 c3 : Nat} (h1 : EAt w A a1 y.args.length (ndsD y.args)) (h2 : EAt w A a2 y.body.length (acsD y.body)) (h3 : EAt w A a3 y.other.length (acsD y.other)) :
    EVals w A y.ds [.int .i64 y.op, .int .i64 y.n, .int .i64 y.m, .int .i64 y.at_, .slice a1 y.args.length c1, .slice a2 y.body.length c2, .slice a3 y.other.length c3] := by
  obtain ⟨op, n, m, at_, args, body, other⟩ := y
  unfold Ac.ds
  exact .cons eint (.cons eint (.cons eint (.cons eint (.cons h1.val (.cons h2.val (.cons h3.val .nil))))))
set_option maxRecDepth 100000 in
set_option maxHeartbeats 3200000 in
theorem acts_step (l : List St) (hl5 : l.length ≤ 5000) (ih : ∀ j (h : j < l.length), ActOk l[j]) : ActsOk l := by
  intro K L kv lv A a cap w hK hL hD
  have HK := hid hK
  have HL := hid hL
  have HD := hid hD
  have HI := hid ih
  clear hK hL hD ih
  go_enter Tryz.func121, Tryz.ntmps121
  go_wp2_with fail
  go_loopw [6, 8, 9, 10, 13] (fun v _ _ _ i wr => ∃ (j : Nat) (acc : List Ac), j ≤ l.length ∧ i = .int .i64 j ∧ acc.length = j ∧ rsSs K L (l.take j) = .ok acc ∧ Row (w.heap.size + 1) 109 7 wr v acc.length (acsD acc) ∧ wr.heap[w.heap.size]? = some (.cells #[kv, lv] 195) ∧ Below w.heap.size w wr) (fun _ _ _ _ i _ => l.length - (intOf i).toNat)
  case atStart => exact ⟨0, [], Nat.zero_le _, rfl, rfl, by rw [List.take_zero, rsSs], Row.nil _ _ _ _, heap_newP _ _, al1 _ _⟩
  case round =>
    obtain ⟨j, acc, hj, rfl, hacc, hrs, hrow, hbx, hb⟩ := hrel
    have HR := hid hrs
    have HO := hid hrow
    have HX := hid hbx
    have HB := hid hb
    have hzr := hb.size
    have hxlt := lt_of_heap hbx
    clear hrs hrow hb
    by_cases hlt : j < l.length
    · obtain ⟨b, off, a1, p1, a2, p2, a3, p3, rfl, hx⟩ := (HD.out.later HB.out).st j hlt
      have HIj := hid (HI.out j hlt)
      have HErr := hid (fun c (he : rsS K L l[j] = .error c) => rsSs_err hlt HR.out he)
      have HOk := hid (fun y (he : rsS K L l[j] = .ok y) => rsSs_snoc hlt HR.out he)
      obtain ⟨hbl, x0, x1, x2, x3, x4, x5, hargs, hbody, hother, _, hm, hn⟩ := hx
      generalize l[j] = x at *
      have HC := hid (HIj.out K L kv lv A a1 p1 a2 p2 a3 p3 (wr.alloc (.cells #[.int .i64 x.op, .string x.mod, .string x.name, .slice a1 x.args.length p1, .slice a2 x.body.length p2, .slice a3 x.other.length p3] 176)) (HK.out.later (thenB HB.out (al1 _ _))) (HL.out.later (thenB HB.out (al1 _ _))) hm hn (hargs.later (al1 _ _)) (hbody.later (al1 _ _)) (hother.later (al1 _ _)))
      obtain ⟨bx0, bx1, hfz⟩ := cellsOf2 HX.out
      clear hm hn hbx hargs hbody hother
      go_wp2_with fail
      refine HC.out.mono ?_
      rintro e w1 ⟨hend, hb1⟩
      have HB1 := hid (thenB (al1 wr _) hb1)
      have hz1 := hb1.size
      simp at hz1
      clear hb1 HC bx0 bx1 hfz x0 x1 x2 x3 x4 x5
      cases hr : rsS K L x with
      | error c =>
        rw [hr] at hend
        obtain ⟨o, n, m, t, f1, k1, e1, f2, k2, e2, f3, k3, e3, rfl, hc⟩ := hend
        have HF := hid (HErr.out c hr)
        clear hr
        go_wp2_with fail
        go_ret2
        exact ⟨by rw [HF.out]; exact ⟨rfl, hc⟩, thenB (thenB HB.out HB1.out) (al1 _ _)⟩
      | ok y =>
        rw [hr] at hend
        obtain ⟨b1, d1, b2, d2, b3, d3, rfl, he1, he2, he3⟩ := hend
        have HF := hid (HOk.out _ hr)
        have HO1 := hid ((HO.out.later HB1.out).alloc (.cells #[.int .i64 y.op, .int .i64 y.n, .int .i64 y.m, .int .i64 y.at_, .slice b1 y.args.length d1, .slice b2 y.body.length d2, .slice b3 y.other.length d3] 109))
        have HE1 : Hid (EVals (w1.alloc (.cells #[.int .i64 y.op, .int .i64 y.n, .int .i64 y.m, .int .i64 y.at_, .slice b1 y.args.length d1, .slice b2 y.body.length d2, .slice b3 y.other.length d3] 109)) (wr.heap.size + 1 ≤ ·) y.ds [.int .i64 y.op, .int .i64 y.n, .int .i64 y.m, .int .i64 y.at_, .slice b1 y.args.length d1, .slice b2 y.body.length d2, .slice b3 y.other.length d3]) := by
          have hm : Moves w1 ((wr.alloc (.cells #[.int .i64 x.op, .string x.mod, .string x.name, .slice a1 x.args.length p1, .slice a2 x.body.length p2, .slice a3 x.other.length p3] 176)).heap.size ≤ ·) (w1.alloc (.cells #[.int .i64 y.op, .int .i64 y.n, .int .i64 y.m, .int .i64 y.at_, .slice b1 y.args.length d1, .slice b2 y.body.length d2, .slice b3 y.other.length d3] 109)) (wr.heap.size + 1 ≤ ·) :=
            ((Moves.refl w1 _).alloc _).trans ⟨Nat.le_refl _, fun b _ h => ⟨by simp at h; exact h, rfl⟩⟩
          exact ac_evals (he1.moves hm) (he2.moves hm) (he3.moves hm)
        have HLt := hid (fun k hk => (HO.out.lt k hk).2)
        have HX1 := hid ((thenB HB1.out (al1 w1 (.cells #[.int .i64 y.op, .int .i64 y.n, .int .i64 y.m, .int .i64 y.at_, .slice b1 y.args.length d1, .slice b2 y.body.length d2, .slice b3 y.other.length d3] 109))).block _ hxlt |>.trans HX.out)
        have HBA := hid (thenB (thenB HB.out HB1.out) (al1 w1 (.cells #[.int .i64 y.op, .int .i64 y.n, .int .i64 y.m, .int .i64 y.at_, .slice b1 y.args.length d1, .slice b2 y.body.length d2, .slice b3 y.other.length d3] 109)))
        clear he1 he2 he3 hr
        go_wp2_with (at_builtin; refine append_row rfl (.tmp 26) (.tmp 28) 40 rfl (w.heap.size + 1) 109 _ 7 104 Tryz.underlying40 Tryz.infoAct rfl (by decide) (w1.alloc (.cells #[.int .i64 y.op, .int .i64 y.n, .int .i64 y.m, .int .i64 y.at_, .slice b1 y.args.length d1, .slice b2 y.body.length d2, .slice b3 y.other.length d3] 109)) u6 acc.length (acsD acc) y.ds rfl HO1.out #[.int .i64 y.op, .int .i64 y.n, .int .i64 y.m, .int .i64 y.at_, .slice b1 y.args.length d1, .slice b2 y.body.length d2, .slice b3 y.other.length d3] _ (by simp) rfl rfl (wr.heap.size + 1 ≤ ·) HE1.out ?_ (by omega) (by decide) (by simp; omega) ?_)
        · intro b _ hb
          have hb' : wr.heap.size + 1 ≤ b := hb
          exact ⟨by omega, fun h => by have := HLt.out b h; omega⟩
        · intro g5 c5 w5 HO5 HB5 hz5
          have HO5' := hid HO5
          have HB5' := hid HB5
          clear HO5 HB5 HO1 HE1
          go_wp2_with fail
          go_roundw
          case rel => exact ⟨j + 1, acc ++ [y], by omega, by go_num, by simp [hacc], HF.out, by rw [acsD_append, acsD_one, List.length_append, hacc]; exact HO5'.out, (HB5'.out.block _ (by omega)).trans HX1.out, HBA.out.trans (HB5'.out.mono (by omega))⟩
          case measure => simp [intOf]; omega
    · obtain rfl : j = l.length := by omega
      have HRl : Hid (rsSs K L l = .ok acc) := by have := HR.out; rw [List.take_length] at this; exact this
      obtain ⟨a5, c5, rfl, hea⟩ := HO.out.slice
      have HEA := hid hea
      clear hea hbx
      go_wp2_with fail
      go_ret2
      refine ⟨by rw [HRl.out]; exact ⟨a5, c5, rfl, HEA.out.moves ⟨Nat.le_refl _, fun b _ h => ⟨by have : w.heap.size + 1 ≤ b := h; show w.heap.size ≤ b; omega, rfl⟩⟩⟩, HB.out⟩
end Go.Proofs.YtndkhgakfodldaaGreatDoor
