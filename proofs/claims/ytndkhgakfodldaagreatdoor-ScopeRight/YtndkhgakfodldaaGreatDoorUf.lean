/-
  Package scope: expressions are resolved.
-/
import Derived.Test.YtndkhgakfodldaaGreatDoorUc
namespace Go.Proofs.YtndkhgakfodldaaGreatDoor
open Go.RowKit Go.Maps Go.WideMaps
set_option linter.unusedSimpArgs false

theorem Tryz.infoNode : (Tryz.prog.info? 253).map (fun i => (i.zero, i.size, i.bytes)) = some (some (.agg #[.int .i64 0, .int .i64 0, .int .i64 0, .int .i64 0, .slice none 0 0]), 5, 56) := by kernel_rfl
/- How a list that is resolved ends. -/
def rsEnd {α : Type} (lo : Nat) (len : List α → Nat) (ds : List α → List D) (r : Except Int (List α)) (e : Ending) (w : World) : Prop :=
  match r with
  | .error c => e = .returned (.tuple #[.slice none 0 0, .int .i64 c]) ∧ c ≠ 0
  | .ok l => ∃ a cap, e = .returned (.tuple #[.slice a (len l) cap, .int .i64 0]) ∧ EAt w (lo ≤ ·) a (len l) (ds l)
def NodesOk (l : List Ex) : Prop := ∀ (K : Kn) (L : Lc) (kv lv : Value) (A : Nat → Prop) (a : Option Addr) (cap : Nat) (w : World), KnAt w kv K → LcAt w lv L → DAt w A a l.length (exsD l) →
  Calls Tryz.prog 206 #[.agg #[kv, lv], .slice a l.length cap] w fun e w' => rsEnd w.heap.size List.length ndsD (rsEs K L l) e w' ∧ Below w.heap.size w w'
theorem alE_ok {a : Al} (h : a.err = 0) : alE a = .ok a := if_pos h
theorem alE_no {a : Al} (h : a.err ≠ 0) : alE a = .error a.err := if_neg h
theorem rsE_alone {K : Kn} {L : Lc} {x : Ex} (h : (ndM K L x).err ≠ 0) : rsE K L x = .error (ndM K L x).err := by rw [rsE_eq, alE_no h]; rfl
theorem rsE_args {K : Kn} {L : Lc} {x : Ex} {c : Int} (h : (ndM K L x).err = 0) (ha : rsEs K L x.args = .error c) : rsE K L x = .error c := by rw [rsE_eq, alE_ok h, ha]; rfl
theorem rsE_ok {K : Kn} {L : Lc} {x : Ex} {l : List Nd} (h : (ndM K L x).err = 0) (ha : rsEs K L x.args = .ok l) : rsE K L x = .ok (.mk (ndM K L x).op (ndM K L x).n (ndM K L x).m (ndM K L x).at_ l) := by rw [rsE_eq, alE_ok h, ha]; rfl
theorem nd_evals {A : Nat → Prop} {op n m at_ : Int} {l : List Nd} {w : World} {a : Option Addr} {cap : Nat} (h : EAt w A a l.length (ndsD l)) : EVals w A (Nd.mk op n m at_ l).ds [.int .i64 op, .int .i64 n, .int .i64 m, .int .i64 at_, .slice a l.length cap] := by
  unfold Nd.ds
  exact .cons eint (.cons eint (.cons eint (.cons eint (.cons h.val .nil))))
theorem cellsOf2 {w : World} {b : Nat} {x0 x1 : Value} {t : TypeId} (h : w.heap[b]? = some (.cells #[x0, x1] t (0, 0))) :
    w.cell? ⟨b, 0, none⟩ = some x0 ∧ w.cell? ⟨b, 1, none⟩ = some x1 ∧ ∀ i, w.frozen? ⟨b, i, none⟩ = false := by
  refine ⟨?_, ?_, fun i => Lib.frozen_of_heap h i⟩ <;> (rw [Lib.cell_of_heap h]; rfl)
set_option maxRecDepth 100000 in
set_option maxHeartbeats 3200000 in
theorem nodes_step (l : List Ex) (hl5 : l.length ≤ 5000) (ih : ∀ j (h : j < l.length), NodesOk l[j].args) : NodesOk l := by
  intro K L kv lv A a cap w hK hL hD
  have HK := hid hK
  have HL := hid hL
  have HD := hid hD
  have HI := hid ih
  clear hK hL hD ih
  go_enter Tryz.func206, Tryz.ntmps206
  go_wp2_with fail
  go_loopw [6, 8, 9, 10, 13] (fun v _ _ _ i wr => ∃ (j : Nat) (acc : List Nd), j ≤ l.length ∧ i = .int .i64 j ∧ acc.length = j ∧ rsEs K L (l.take j) = .ok acc ∧ Row (w.heap.size + 1) 253 5 wr v acc.length (ndsD acc) ∧ wr.heap[w.heap.size]? = some (.cells #[kv, lv] 195) ∧ Below w.heap.size w wr) (fun _ _ _ _ i _ => l.length - (intOf i).toNat)
  case atStart => exact ⟨0, [], Nat.zero_le _, rfl, rfl, by rw [List.take_zero, rsEs], Row.nil _ _ _ _, heap_newP _ _, al1 _ _⟩
  case round =>
    obtain ⟨j, acc, hj, rfl, hacc, hrs, hrow, hbx, hb⟩ := hrel
    have HR := hid hrs
    have HO := hid hrow
    have HX := hid hbx
    have HB := hid hb
    have hzr := hb.size
    have hxlt := lt_of_heap hbx
    clear hrs hrow hb
    by_cases hlt : j < l.length
    · obtain ⟨b, off, aa, cp, rfl, hx⟩ := (HD.out.later HB.out).ex j hlt
      have HIj := hid (HI.out j hlt)
      have HErr := hid (fun c (he : rsE K L l[j] = .error c) => rsEs_err hlt HR.out he)
      have HOk := hid (fun y (he : rsE K L l[j] = .ok y) => rsEs_snoc hlt HR.out he)
      obtain ⟨hbl, x0, x1, x2, x3, x4, hargs, _, _, hm, hn⟩ := hx
      have HA := hid hargs
      clear hargs
      generalize l[j] = x at *
      have HC := hid (nodeAlone_any K L kv lv x aa cp (wr.alloc (.cells #[.int .i64 x.op, .int .i64 x.n, .string x.mod, .string x.name, .slice aa x.args.length cp] 174)) (HK.out.later (thenB HB.out (al1 _ _))) (HL.out.later (thenB HB.out (al1 _ _))) hm hn)
      obtain ⟨bx0, bx1, hfz⟩ := cellsOf2 HX.out
      clear hm hn hbx
      go_wp2_with fail
      refine HC.out.mono ?_
      generalize hh : ndM K L x = h at *
      obtain ⟨ho, hn, hm, ha, he⟩ := h
      simp only [Al.node] at *
      rintro e w1 ⟨rfl, hb1⟩
      have HB1 := hid (thenB (al1 wr _) hb1)
      have hz1 := hb1.size
      simp at hz1
      have q1 : w1.heap[wr.heap.size]? = some (.cells #[.int .i64 x.op, .int .i64 x.n, .string x.mod, .string x.name, .slice aa x.args.length cp] 174) := (hb1.block _ (by simp)).trans (heap_newP _ _)
      have q2 := (HB1.out.block _ hxlt).trans HX.out
      obtain ⟨y0, y1, y2, y3, y4, y5⟩ := cellsOf5 q1
      obtain ⟨bx0', bx1', hfz'⟩ := cellsOf2 q2
      have HX1 := hid q2
      have hxl1 : w.heap.size < w1.heap.size := by omega
      have hwl1 : wr.heap.size < w1.heap.size := by omega
      clear hb1 HC q1 q2 bx0 bx1 hfz x0 x1 x2 x3 x4 y5 hfz'
      by_cases hee : he = 0
      · subst hee
        have HH := hid hh
        clear hh
        have HC2 := hid (HIj.out K L kv lv A aa cp (w1.alloc (.cells #[.int .i64 ho, .int .i64 hn, .int .i64 hm, .int .i64 ha, .slice none 0 0] 253)) (HK.out.later (thenB (thenB HB.out HB1.out) (al1 _ _))) (HL.out.later (thenB (thenB HB.out HB1.out) (al1 _ _))) (HA.out.later (thenB HB1.out (al1 _ _))))
        go_wp2_with fail
        refine HC2.out.mono ?_
        rintro e w2 ⟨hend, hb2⟩
        have hz2 := hb2.size
        simp at hz2
        have q3 : w2.heap[w1.heap.size]? = some (.cells #[.int .i64 ho, .int .i64 hn, .int .i64 hm, .int .i64 ha, .slice none 0 0] 253) := (hb2.block _ (by simp)).trans (heap_newP _ _)
        obtain ⟨z0, z1, z2, z3, z4, z5⟩ := cellsOf5 q3
        have HB2 := hid (thenB HB1.out (thenB (al1 _ _) hb2))
        have hwl2 : w1.heap.size < w2.heap.size := by omega
        clear hb2 HC2 q3
        cases hr : rsEs K L x.args with
        | error c =>
          rw [hr] at hend
          obtain ⟨rfl, hc⟩ := hend
          have HF := hid (HErr.out c (rsE_args (by rw [HH.out]) hr))
          clear hr
          go_wp2_with fail
          go_ret2
          exact ⟨by rw [HF.out]; exact ⟨rfl, hc⟩, (thenB HB.out HB2.out).setCell (p := ⟨w1.heap.size, 4, none⟩) (by show w.heap.size ≤ w1.heap.size; omega) _⟩
        | ok r =>
          rw [hr] at hend
          obtain ⟨a2, c2, rfl, hea⟩ := hend
          have HF := hid (HOk.out _ (rsE_ok (by rw [HH.out]) hr))
          rw [HH.out] at HF
          simp only [] at HF
          have HB3 : Hid (Below wr.heap.size wr (w2.setCell ⟨w1.heap.size, 4, none⟩ (.slice a2 r.length c2))) := HB2.out.setCell (p := ⟨w1.heap.size, 4, none⟩) (by show wr.heap.size ≤ w1.heap.size; omega) _
          have HO3 := hid (HO.out.later HB3.out)
          have HE3 : Hid (EVals (w2.setCell ⟨w1.heap.size, 4, none⟩ (.slice a2 r.length c2)) (w1.heap.size + 1 ≤ ·) (Nd.mk ho hn hm ha r).ds [.int .i64 ho, .int .i64 hn, .int .i64 hm, .int .i64 ha, .slice a2 r.length c2]) := nd_evals ((hea.moves ((Moves.refl w2 _).set (p := ⟨w1.heap.size, 4, none⟩) (by intro b _ hb; simp at hb; show b ≠ w1.heap.size; omega) _)).moves ⟨Nat.le_refl _, fun b _ h => ⟨by simp at h; exact h, rfl⟩⟩)
          have HLt := hid (fun k hk => (HO.out.lt k hk).2)
          have HX3 : Hid ((w2.setCell ⟨w1.heap.size, 4, none⟩ (.slice a2 r.length c2)).heap[w.heap.size]? = some (.cells #[kv, lv] 195)) := (HB3.out.block _ hxlt).trans HX.out
          have HZ3 : Hid ((w2.setCell ⟨w1.heap.size, 4, none⟩ (.slice a2 r.length c2)).heap.size = w2.heap.size) := World.size_setCell ..
          clear hea hr
          go_wp2_with (at_builtin; refine append_row rfl (.tmp 37) (.tmp 39) 107 rfl (w.heap.size + 1) 253 _ 5 56 Tryz.underlying107 Tryz.infoNode rfl (by decide) (w2.setCell ⟨w1.heap.size, 4, none⟩ (.slice a2 r.length c2)) u6 acc.length (ndsD acc) (Nd.mk ho hn hm ha r).ds rfl HO3.out #[.int .i64 ho, .int .i64 hn, .int .i64 hm, .int .i64 ha, .slice a2 r.length c2] _ HZ3.out.symm rfl rfl (w1.heap.size + 1 ≤ ·) HE3.out ?_ (by omega) (by decide) (by rw [HZ3.out]; omega) ?_)
          · intro b _ hb
            have hb' : w1.heap.size + 1 ≤ b := hb
            exact ⟨by omega, fun h => by have := HLt.out b h; omega⟩
          · intro g5 c5 w5 HO5 HB5 hz5
            have HO5' := hid HO5
            have HB5' := hid HB5
            clear HO5 HB5 HO3 HE3
            go_wp2_with fail
            go_roundw
            case rel => exact ⟨j + 1, acc ++ [Nd.mk ho hn hm ha r], by omega, by go_num, by simp [hacc], HF.out, by rw [ndsD_append, ndsD_one, List.length_append, hacc]; exact HO5'.out, (HB5'.out.block _ (by omega)).trans HX3.out, (thenB HB.out HB3.out).trans (HB5'.out.mono (by omega))⟩
            case measure => simp [intOf]; omega
      · have HF := hid (HErr.out he (by rw [rsE_alone (by rw [hh]; exact hee), hh]))
        clear hh
        go_wp2_with fail
        go_ret2
        exact ⟨by rw [HF.out]; exact ⟨rfl, hee⟩, thenB (thenB HB.out HB1.out) (al1 _ _)⟩
    · obtain rfl : j = l.length := by omega
      have HRl : Hid (rsEs K L l = .ok acc) := by have := HR.out; rw [List.take_length] at this; exact this
      obtain ⟨a5, c5, rfl, hea⟩ := HO.out.slice
      have HEA := hid hea
      clear hea hbx
      go_wp2_with fail
      go_ret2
      refine ⟨by rw [HRl.out]; exact ⟨a5, c5, rfl, HEA.out.moves ⟨Nat.le_refl _, fun b _ h => ⟨by have : w.heap.size + 1 ≤ b := h; show w.heap.size ≤ b; omega, rfl⟩⟩⟩, HB.out⟩
theorem nodes_any : ∀ (k : Nat) (l : List Ex), exMany k l = false → NodesOk l
  | 0, l, h => nodes_step l (by simp [exMany] at h; rw [h]; simp) (by simp [exMany] at h; subst h; intro j hj; simp at hj)
  | k + 1, l, h => by
    simp only [exMany, Bool.or_eq_false_iff] at h
    have h1 := of_decide_eq_false h.1
    refine nodes_step l (by omega) fun j hj => nodes_any k _ ?_
    have := h.2
    rw [List.any_eq_false] at this
    simpa using this l[j] (List.getElem_mem _)
end Go.Proofs.YtndkhgakfodldaaGreatDoor

namespace Go.Proofs.YtndkhgakfodldaaGreatDoor
open Go.RowKit Go.Maps Go.WideMaps
set_option linter.unusedSimpArgs false

theorem Tryz.infoAct : (Tryz.prog.info? 109).map (fun i => (i.zero, i.size, i.bytes)) = some (some (.agg #[.int .i64 0, .int .i64 0, .int .i64 0, .int .i64 0, .slice none 0 0, .slice none 0 0, .slice none 0 0]), 7, 104) := by kernel_rfl
def ActsOk (l : List St) : Prop := ∀ (K : Kn) (L : Lc) (kv lv : Value) (A : Nat → Prop) (a : Option Addr) (cap : Nat) (w : World), KnAt w kv K → LcAt w lv L → DAt w A a l.length (stsD l) →
  Calls Tryz.prog 121 #[.agg #[kv, lv], .slice a l.length cap] w fun e w' => rsEnd w.heap.size List.length acsD (rsSs K L l) e w' ∧ Below w.heap.size w w'
/- How a statement that is resolved ends. -/
def actEnd (lo : Nat) (r : Except Int Ac) (e : Ending) (w : World) : Prop :=
  match r with
  | .error c => ∃ o n m t a1 k1 c1 a2 k2 c2 a3 k3 c3, e = .returned (.tuple #[.agg #[.int .i64 o, .int .i64 n, .int .i64 m, .int .i64 t, .slice a1 k1 c1, .slice a2 k2 c2, .slice a3 k3 c3], .int .i64 c]) ∧ c ≠ 0
  | .ok y => ∃ a1 c1 a2 c2 a3 c3, e = .returned (.tuple #[.agg #[.int .i64 y.op, .int .i64 y.n, .int .i64 y.m, .int .i64 y.at_, .slice a1 y.args.length c1, .slice a2 y.body.length c2, .slice a3 y.other.length c3], .int .i64 0]) ∧
    EAt w (lo ≤ ·) a1 y.args.length (ndsD y.args) ∧ EAt w (lo ≤ ·) a2 y.body.length (acsD y.body) ∧ EAt w (lo ≤ ·) a3 y.other.length (acsD y.other)
def ActOk (x : St) : Prop := ∀ (K : Kn) (L : Lc) (kv lv : Value) (A : Nat → Prop) (a1 : Option Addr) (c1 : Nat) (a2 : Option Addr) (c2 : Nat) (a3 : Option Addr) (c3 : Nat) (w : World), KnAt w kv K → LcAt w lv L → x.mod.size ≤ maxLen → x.name.size ≤ maxLen →
  DAt w A a1 x.args.length (exsD x.args) → DAt w A a2 x.body.length (stsD x.body) → DAt w A a3 x.other.length (stsD x.other) →
  Calls Tryz.prog 162 #[.agg #[kv, lv], .agg #[.int .i64 x.op, .string x.mod, .string x.name, .slice a1 x.args.length c1, .slice a2 x.body.length c2, .slice a3 x.other.length c3]] w fun e w' => actEnd w.heap.size (rsS K L x) e w' ∧ Below w.heap.size w w'
theorem ac_evals {A : Nat → Prop} {y : Ac} {w : World} {a1 a2 a3 : Option Addr} {c1 c2 c3 : Nat} (h1 : EAt w A a1 y.args.length (ndsD y.args)) (h2 : EAt w A a2 y.body.length (acsD y.body)) (h3 : EAt w A a3 y.other.length (acsD y.other)) :
    EVals w A y.ds [.int .i64 y.op, .int .i64 y.n, .int .i64 y.m, .int .i64 y.at_, .slice a1 y.args.length c1, .slice a2 y.body.length c2, .slice a3 y.other.length c3] := by
  obtain ⟨op, n, m, at_, args, body, other⟩ := y
  unfold Ac.ds
  exact .cons eint (.cons eint (.cons eint (.cons eint (.cons h1.val (.cons h2.val (.cons h3.val .nil))))))
set_option maxRecDepth 100000 in
set_option maxHeartbeats 3200000 in
theorem acts_step (l : List St) (hl5 : l.length ≤ 5000) (ih : ∀ j (h : j < l.length), ActOk l[j]) : ActsOk l := by
  intro K L kv lv A a cap w hK hL hD
  have HK := hid hK
  have HL := hid hL
  have HD := hid hD
  have HI := hid ih
  clear hK hL hD ih
  go_enter Tryz.func121, Tryz.ntmps121
  go_wp2_with fail
  go_loopw [6, 8, 9, 10, 13] (fun v _ _ _ i wr => ∃ (j : Nat) (acc : List Ac), j ≤ l.length ∧ i = .int .i64 j ∧ acc.length = j ∧ rsSs K L (l.take j) = .ok acc ∧ Row (w.heap.size + 1) 109 7 wr v acc.length (acsD acc) ∧ wr.heap[w.heap.size]? = some (.cells #[kv, lv] 195) ∧ Below w.heap.size w wr) (fun _ _ _ _ i _ => l.length - (intOf i).toNat)
  case atStart => exact ⟨0, [], Nat.zero_le _, rfl, rfl, by rw [List.take_zero, rsSs], Row.nil _ _ _ _, heap_newP _ _, al1 _ _⟩
  case round =>
    obtain ⟨j, acc, hj, rfl, hacc, hrs, hrow, hbx, hb⟩ := hrel
    have HR := hid hrs
    have HO := hid hrow
    have HX := hid hbx
    have HB := hid hb
    have hzr := hb.size
    have hxlt := lt_of_heap hbx
    clear hrs hrow hb
    by_cases hlt : j < l.length
    · obtain ⟨b, off, a1, p1, a2, p2, a3, p3, rfl, hx⟩ := (HD.out.later HB.out).st j hlt
      have HIj := hid (HI.out j hlt)
      have HErr := hid (fun c (he : rsS K L l[j] = .error c) => rsSs_err hlt HR.out he)
      have HOk := hid (fun y (he : rsS K L l[j] = .ok y) => rsSs_snoc hlt HR.out he)
      obtain ⟨hbl, x0, x1, x2, x3, x4, x5, hargs, hbody, hother, _, hm, hn⟩ := hx
      generalize l[j] = x at *
      have HC := hid (HIj.out K L kv lv A a1 p1 a2 p2 a3 p3 (wr.alloc (.cells #[.int .i64 x.op, .string x.mod, .string x.name, .slice a1 x.args.length p1, .slice a2 x.body.length p2, .slice a3 x.other.length p3] 176)) (HK.out.later (thenB HB.out (al1 _ _))) (HL.out.later (thenB HB.out (al1 _ _))) hm hn (hargs.later (al1 _ _)) (hbody.later (al1 _ _)) (hother.later (al1 _ _)))
      obtain ⟨bx0, bx1, hfz⟩ := cellsOf2 HX.out
      clear hm hn hbx hargs hbody hother
      go_wp2_with fail
      refine HC.out.mono ?_
      rintro e w1 ⟨hend, hb1⟩
      have HB1 := hid (thenB (al1 wr _) hb1)
      have hz1 := hb1.size
      simp at hz1
      clear hb1 HC bx0 bx1 hfz x0 x1 x2 x3 x4 x5
      cases hr : rsS K L x with
      | error c =>
        rw [hr] at hend
        obtain ⟨o, n, m, t, f1, k1, e1, f2, k2, e2, f3, k3, e3, rfl, hc⟩ := hend
        have HF := hid (HErr.out c hr)
        clear hr
        go_wp2_with fail
        go_ret2
        exact ⟨by rw [HF.out]; exact ⟨rfl, hc⟩, thenB (thenB HB.out HB1.out) (al1 _ _)⟩
      | ok y =>
        rw [hr] at hend
        obtain ⟨b1, d1, b2, d2, b3, d3, rfl, he1, he2, he3⟩ := hend
        have HF := hid (HOk.out _ hr)
        have HO1 := hid ((HO.out.later HB1.out).alloc (.cells #[.int .i64 y.op, .int .i64 y.n, .int .i64 y.m, .int .i64 y.at_, .slice b1 y.args.length d1, .slice b2 y.body.length d2, .slice b3 y.other.length d3] 109))
        have HE1 : Hid (EVals (w1.alloc (.cells #[.int .i64 y.op, .int .i64 y.n, .int .i64 y.m, .int .i64 y.at_, .slice b1 y.args.length d1, .slice b2 y.body.length d2, .slice b3 y.other.length d3] 109)) (wr.heap.size + 1 ≤ ·) y.ds [.int .i64 y.op, .int .i64 y.n, .int .i64 y.m, .int .i64 y.at_, .slice b1 y.args.length d1, .slice b2 y.body.length d2, .slice b3 y.other.length d3]) := by
          have hm : Moves w1 ((wr.alloc (.cells #[.int .i64 x.op, .string x.mod, .string x.name, .slice a1 x.args.length p1, .slice a2 x.body.length p2, .slice a3 x.other.length p3] 176)).heap.size ≤ ·) (w1.alloc (.cells #[.int .i64 y.op, .int .i64 y.n, .int .i64 y.m, .int .i64 y.at_, .slice b1 y.args.length d1, .slice b2 y.body.length d2, .slice b3 y.other.length d3] 109)) (wr.heap.size + 1 ≤ ·) :=
            ((Moves.refl w1 _).alloc _).trans ⟨Nat.le_refl _, fun b _ h => ⟨by simp at h; exact h, rfl⟩⟩
          exact ac_evals (he1.moves hm) (he2.moves hm) (he3.moves hm)
        have HLt := hid (fun k hk => (HO.out.lt k hk).2)
        have HX1 := hid ((thenB HB1.out (al1 w1 (.cells #[.int .i64 y.op, .int .i64 y.n, .int .i64 y.m, .int .i64 y.at_, .slice b1 y.args.length d1, .slice b2 y.body.length d2, .slice b3 y.other.length d3] 109))).block _ hxlt |>.trans HX.out)
        have HBA := hid (thenB (thenB HB.out HB1.out) (al1 w1 (.cells #[.int .i64 y.op, .int .i64 y.n, .int .i64 y.m, .int .i64 y.at_, .slice b1 y.args.length d1, .slice b2 y.body.length d2, .slice b3 y.other.length d3] 109)))
        clear he1 he2 he3 hr
        go_wp2_with (at_builtin; refine append_row rfl (.tmp 26) (.tmp 28) 40 rfl (w.heap.size + 1) 109 _ 7 104 Tryz.underlying40 Tryz.infoAct rfl (by decide) (w1.alloc (.cells #[.int .i64 y.op, .int .i64 y.n, .int .i64 y.m, .int .i64 y.at_, .slice b1 y.args.length d1, .slice b2 y.body.length d2, .slice b3 y.other.length d3] 109)) u6 acc.length (acsD acc) y.ds rfl HO1.out #[.int .i64 y.op, .int .i64 y.n, .int .i64 y.m, .int .i64 y.at_, .slice b1 y.args.length d1, .slice b2 y.body.length d2, .slice b3 y.other.length d3] _ (by simp) rfl rfl (wr.heap.size + 1 ≤ ·) HE1.out ?_ (by omega) (by decide) (by simp; omega) ?_)
        · intro b _ hb
          have hb' : wr.heap.size + 1 ≤ b := hb
          exact ⟨by omega, fun h => by have := HLt.out b h; omega⟩
        · intro g5 c5 w5 HO5 HB5 hz5
          have HO5' := hid HO5
          have HB5' := hid HB5
          clear HO5 HB5 HO1 HE1
          go_wp2_with fail
          go_roundw
          case rel => exact ⟨j + 1, acc ++ [y], by omega, by go_num, by simp [hacc], HF.out, by rw [acsD_append, acsD_one, List.length_append, hacc]; exact HO5'.out, (HB5'.out.block _ (by omega)).trans HX1.out, HBA.out.trans (HB5'.out.mono (by omega))⟩
          case measure => simp [intOf]; omega
    · obtain rfl : j = l.length := by omega
      have HRl : Hid (rsSs K L l = .ok acc) := by have := HR.out; rw [List.take_length] at this; exact this
      obtain ⟨a5, c5, rfl, hea⟩ := HO.out.slice
      have HEA := hid hea
      clear hea hbx
      go_wp2_with fail
      go_ret2
      refine ⟨by rw [HRl.out]; exact ⟨a5, c5, rfl, HEA.out.moves ⟨Nat.le_refl _, fun b _ h => ⟨by have : w.heap.size + 1 ≤ b := h; show w.heap.size ≤ b; omega, rfl⟩⟩⟩, HB.out⟩
end Go.Proofs.YtndkhgakfodldaaGreatDoor

namespace Go.Proofs.YtndkhgakfodldaaGreatDoor
open Go.RowKit Go.Maps Go.WideMaps
set_option linter.unusedSimpArgs false

theorem EAt.later {w w' : World} {A : Nat → Prop} {a : Option Addr} {n : Nat} {ds : List D} (h : EAt w A a n ds) (hb : Below w.heap.size w w') : EAt w' A a n ds := h.moves (Moves.of_below hb A)
theorem rsS_alone {K : Kn} {L : Lc} {x : St} (h : (acM K L x).err ≠ 0) : rsS K L x = .error (acM K L x).err := by rw [rsS_eq, alE_no h]; rfl
theorem rsS_args {K : Kn} {L : Lc} {x : St} {c : Int} (h : (acM K L x).err = 0) (h1 : rsEs K L x.args = .error c) : rsS K L x = .error c := by rw [rsS_eq, alE_ok h, h1]; rfl
theorem rsS_body {K : Kn} {L : Lc} {x : St} {c : Int} {l : List Nd} (h : (acM K L x).err = 0) (h1 : rsEs K L x.args = .ok l) (h2 : rsSs K L x.body = .error c) : rsS K L x = .error c := by rw [rsS_eq, alE_ok h, h1, h2]; rfl
theorem rsS_other {K : Kn} {L : Lc} {x : St} {c : Int} {l : List Nd} {b : List Ac} (h : (acM K L x).err = 0) (h1 : rsEs K L x.args = .ok l) (h2 : rsSs K L x.body = .ok b) (h3 : rsSs K L x.other = .error c) : rsS K L x = .error c := by rw [rsS_eq, alE_ok h, h1, h2, h3]; rfl
theorem rsS_ok {K : Kn} {L : Lc} {x : St} {l : List Nd} {b o : List Ac} (h : (acM K L x).err = 0) (h1 : rsEs K L x.args = .ok l) (h2 : rsSs K L x.body = .ok b) (h3 : rsSs K L x.other = .ok o) : rsS K L x = .ok (.mk (acM K L x).op (acM K L x).n (acM K L x).m (acM K L x).at_ l b o) := by rw [rsS_eq, alE_ok h, h1, h2, h3]; rfl
set_option maxRecDepth 100000 in
set_option maxHeartbeats 8000000 in
theorem act_step (x : St) (hn : NodesOk x.args) (hb : ActsOk x.body) (ho : ActsOk x.other) : ActOk x := by
  intro K L kv lv A a1 c1 a2 c2 a3 c3 w hK hL hm hnm hd1 hd2 hd3
  have HC := hid (actAlone_any K L kv lv x a1 a2 a3 c1 c2 c3 (((w.alloc (.cells #[kv, lv] 195)).alloc (.cells #[.int .i64 x.op, .string x.mod, .string x.name, .slice a1 x.args.length c1, .slice a2 x.body.length c2, .slice a3 x.other.length c3] 176)).alloc (.cells #[.int .i64 0, .int .i64 0, .int .i64 0, .int .i64 0, .slice none 0 0, .slice none 0 0, .slice none 0 0] 109)) (hK.later (bl3 _ _ _ _)) (hL.later (bl3 _ _ _ _)) hm hnm)
  have HK := hid hK
  have HL := hid hL
  have HD1 := hid hd1
  have HD2 := hid hd2
  have HD3 := hid hd3
  have HN := hid hn
  have HBo := hid hb
  have HOt := hid ho
  have HB := hid (fun o p q => bl3 w o p q)
  clear hn hb ho hK hL hm hnm hd1 hd2 hd3
  go_enter Tryz.func162, Tryz.ntmps162
  go_wp2_with fail
  refine HC.out.mono ?_
  have HG : Hid (∀ h, acM K L x = h → acM K L x = h) := fun h e => e
  generalize hh : acM K L x = h at HC ⊢
  obtain ⟨ho, hn, hm, ha, he⟩ := h
  simp only [Al.act]
  rintro e w1 ⟨rfl, hb1⟩
  have HB1 := hid (thenB (HB.out _ _ _) hb1)
  have hz1 := hb1.size
  simp at hz1
  obtain ⟨q0, q1, q2⟩ := kept3 hb1
  have HH := hid hh
  have P0_0 := hid q0
  have P1_0 := hid q1
  have P2_0 := hid q2
  clear hb1 HC q0 q1 q2 hh HG
  obtain ⟨b0, b1_, bf⟩ := cellsOf2 P0_0.out
  obtain ⟨s0, s1, s2, s3, s4, s5, sf⟩ := cellsOf6 P1_0.out
  obtain ⟨r0, r1_, r2_, r3_, r4, r5, r6, rf⟩ := cellsOf7 P2_0.out
  have hl0 := lt_of_heap P0_0.out
  have hl1 := lt_of_heap P1_0.out
  have hl2 := lt_of_heap P2_0.out
  by_cases hee : he = 0
  case neg =>
    have HF := hid ((rsS_alone (by rw [HH.out]; exact hee)).trans (by rw [HH.out]) : rsS K L x = .error he)
    have hne := hee
    go_wp2_with fail
    refine bodyPost_ret (v := .tuple #[.agg #[.int .i64 0, .int .i64 0, .int .i64 0, .int .i64 0, .slice none 0 0, .slice none 0 0, .slice none 0 0], .int .i64 he]) (by simp [results, Tryz.results162, go_sem, r0, r1_, r2_, r3_, r4, r5, r6, hl2]) rfl ⟨by rw [HF.out]; exact ⟨_, _, _, _, _, _, _, _, _, _, _, _, _, rfl, hne⟩, ?_⟩
    exact (bset7 HB1.out (by omega) _ _ _ _ _ _ _).alloc (by simp; omega) _
  subst hee
  have P3_1 : Hid ((w1.alloc (.cells #[.int .i64 ho, .int .i64 hn, .int .i64 hm, .int .i64 ha, .slice none 0 0, .slice none 0 0, .slice none 0 0] 109)).heap[w1.heap.size]? = some (.cells #[.int .i64 ho, .int .i64 hn, .int .i64 hm, .int .i64 ha, .slice none 0 0, .slice none 0 0, .slice none 0 0] 109)) := heap_newP _ _
  have P0_1 : Hid ((w1.alloc (.cells #[.int .i64 ho, .int .i64 hn, .int .i64 hm, .int .i64 ha, .slice none 0 0, .slice none 0 0, .slice none 0 0] 109)).heap[w.heap.size]? = some (.cells #[kv, lv] 195)) := heap_old P0_0.out
  have P1_1 : Hid ((w1.alloc (.cells #[.int .i64 ho, .int .i64 hn, .int .i64 hm, .int .i64 ha, .slice none 0 0, .slice none 0 0, .slice none 0 0] 109)).heap[w.heap.size + 1]? = some (.cells #[.int .i64 x.op, .string x.mod, .string x.name, .slice a1 x.args.length c1, .slice a2 x.body.length c2, .slice a3 x.other.length c3] 176)) := heap_old P1_0.out
  have P2_1 : Hid ((w1.alloc (.cells #[.int .i64 ho, .int .i64 hn, .int .i64 hm, .int .i64 ha, .slice none 0 0, .slice none 0 0, .slice none 0 0] 109)).heap[w.heap.size + 2]? = some (.cells #[.int .i64 0, .int .i64 0, .int .i64 0, .int .i64 0, .slice none 0 0, .slice none 0 0, .slice none 0 0] 109)) := heap_old P2_0.out
  have HB4 : Hid (Below w.heap.size w (w1.alloc (.cells #[.int .i64 ho, .int .i64 hn, .int .i64 hm, .int .i64 ha, .slice none 0 0, .slice none 0 0, .slice none 0 0] 109))) := thenB HB1.out (al1 _ _)
  have HC2 := hid (HN.out K L kv lv A a1 c1 (w1.alloc (.cells #[.int .i64 ho, .int .i64 hn, .int .i64 hm, .int .i64 ha, .slice none 0 0, .slice none 0 0, .slice none 0 0] 109)) (HK.out.later HB4.out) (HL.out.later HB4.out) (HD1.out.later HB4.out))
  go_wp2_with fail
  refine HC2.out.mono ?_
  rintro e w2 ⟨hend, hb2⟩
  have hz2 := hb2.size
  simp at hz2
  have P0_2 : Hid (w2.heap[w.heap.size]? = some (.cells #[kv, lv] 195)) := (hb2.block _ (lt_of_heap P0_1.out)).trans P0_1.out
  have P1_2 : Hid (w2.heap[w.heap.size + 1]? = some (.cells #[.int .i64 x.op, .string x.mod, .string x.name, .slice a1 x.args.length c1, .slice a2 x.body.length c2, .slice a3 x.other.length c3] 176)) := (hb2.block _ (lt_of_heap P1_1.out)).trans P1_1.out
  have P2_2 : Hid (w2.heap[w.heap.size + 2]? = some (.cells #[.int .i64 0, .int .i64 0, .int .i64 0, .int .i64 0, .slice none 0 0, .slice none 0 0, .slice none 0 0] 109)) := (hb2.block _ (lt_of_heap P2_1.out)).trans P2_1.out
  have P3_2 : Hid (w2.heap[w1.heap.size]? = some (.cells #[.int .i64 ho, .int .i64 hn, .int .i64 hm, .int .i64 ha, .slice none 0 0, .slice none 0 0, .slice none 0 0] 109)) := (hb2.block _ (lt_of_heap P3_1.out)).trans P3_1.out
  have HB2 := hid (thenB HB4.out hb2)
  clear hb2 HC2 P0_0 P1_0 P2_0 P0_1 P1_1 P2_1 P3_1 b0 b1_ bf s0 s1 s2 s3 s4 s5 sf r0 r1_ r2_ r3_ r4 r5 r6 rf hl0 hl1 hl2
  obtain ⟨b0, b1_, bf⟩ := cellsOf2 P0_2.out
  obtain ⟨s0, s1, s2, s3, s4, s5, sf⟩ := cellsOf6 P1_2.out
  obtain ⟨r0, r1_, r2_, r3_, r4, r5, r6, rf⟩ := cellsOf7 P2_2.out
  obtain ⟨t0, t1, t2, t3, t4, t5, t6, tf⟩ := cellsOf7 P3_2.out
  have hl0 := lt_of_heap P0_2.out
  have hl1 := lt_of_heap P1_2.out
  have hl2 := lt_of_heap P2_2.out
  have hl3 := lt_of_heap P3_2.out
  cases hr1 : rsEs K L x.args with
  | error c =>
    rw [hr1] at hend
    obtain ⟨rfl, hne⟩ := hend
    have HF := hid (rsS_args (by rw [HH.out]) hr1)
    clear hr1
    go_wp2_with fail
    refine bodyPost_ret (v := .tuple #[.agg #[.int .i64 0, .int .i64 0, .int .i64 0, .int .i64 0, .slice none 0 0, .slice none 0 0, .slice none 0 0], .int .i64 c]) (by simp [results, Tryz.results162, go_sem, r0, r1_, r2_, r3_, r4, r5, r6, hl2]) rfl ⟨by rw [HF.out]; exact ⟨_, _, _, _, _, _, _, _, _, _, _, _, _, rfl, hne⟩, ?_⟩
    exact bset7 (HB2.out.setCell (p := ⟨w1.heap.size, 4, none⟩) (by show w.heap.size ≤ w1.heap.size; omega) _) (by omega) _ _ _ _ _ _ _
  | ok r1 =>
    rw [hr1] at hend
    obtain ⟨b1, d1, rfl, he1⟩ := hend
    have HR1 := hid hr1
    have HE1 := hid he1
    clear hr1 he1
    have P0_3 : Hid ((w2.setCell ⟨w1.heap.size, 4, none⟩ (.slice b1 r1.length d1)).heap[w.heap.size]? = some (.cells #[kv, lv] 195)) := (heap_set_ne (by show w.heap.size ≠ w1.heap.size; omega) _).trans P0_2.out
    have P1_3 : Hid ((w2.setCell ⟨w1.heap.size, 4, none⟩ (.slice b1 r1.length d1)).heap[w.heap.size + 1]? = some (.cells #[.int .i64 x.op, .string x.mod, .string x.name, .slice a1 x.args.length c1, .slice a2 x.body.length c2, .slice a3 x.other.length c3] 176)) := (heap_set_ne (by show w.heap.size + 1 ≠ w1.heap.size; omega) _).trans P1_2.out
    have P2_3 : Hid ((w2.setCell ⟨w1.heap.size, 4, none⟩ (.slice b1 r1.length d1)).heap[w.heap.size + 2]? = some (.cells #[.int .i64 0, .int .i64 0, .int .i64 0, .int .i64 0, .slice none 0 0, .slice none 0 0, .slice none 0 0] 109)) := (heap_set_ne (by show w.heap.size + 2 ≠ w1.heap.size; omega) _).trans P2_2.out
    have P3_3 : Hid ((w2.setCell ⟨w1.heap.size, 4, none⟩ (.slice b1 r1.length d1)).heap[w1.heap.size]? = some (.cells #[.int .i64 ho, .int .i64 hn, .int .i64 hm, .int .i64 ha, .slice b1 r1.length d1, .slice none 0 0, .slice none 0 0] 109)) := heap_set P3_2.out _
    have HB3 : Hid (Below w.heap.size w (w2.setCell ⟨w1.heap.size, 4, none⟩ (.slice b1 r1.length d1))) := HB2.out.setCell (p := ⟨w1.heap.size, 4, none⟩) (by show w.heap.size ≤ w1.heap.size; omega) _
    have HM1 : Hid (EAt (w2.setCell ⟨w1.heap.size, 4, none⟩ (.slice b1 r1.length d1)) (w1.heap.size + 1 ≤ ·) b1 r1.length (ndsD r1)) := (HE1.out.moves ((Moves.refl w2 _).set (p := ⟨w1.heap.size, 4, none⟩) (by intro b _ hb; simp at hb; show b ≠ w1.heap.size; omega) _)).moves ⟨Nat.le_refl _, fun b _ h => ⟨by simp at h; exact h, rfl⟩⟩
    have HC3 := hid (HBo.out K L kv lv A a2 c2 (w2.setCell ⟨w1.heap.size, 4, none⟩ (.slice b1 r1.length d1)) (HK.out.later HB3.out) (HL.out.later HB3.out) (HD2.out.later HB3.out))
    have HZ3 : Hid ((w2.setCell ⟨w1.heap.size, 4, none⟩ (.slice b1 r1.length d1)).heap.size = w2.heap.size) := World.size_setCell ..
    clear HE1 P0_2 P1_2 P2_2 P3_2
    go_wp2_with fail
    refine HC3.out.mono ?_
    rintro e w3 ⟨hend, hb3⟩
    have hz3 := hb3.size
    rw [HZ3.out] at hz3
    have P0_4 : Hid (w3.heap[w.heap.size]? = some (.cells #[kv, lv] 195)) := (hb3.block _ (lt_of_heap P0_3.out)).trans P0_3.out
    have P1_4 : Hid (w3.heap[w.heap.size + 1]? = some (.cells #[.int .i64 x.op, .string x.mod, .string x.name, .slice a1 x.args.length c1, .slice a2 x.body.length c2, .slice a3 x.other.length c3] 176)) := (hb3.block _ (lt_of_heap P1_3.out)).trans P1_3.out
    have P2_4 : Hid (w3.heap[w.heap.size + 2]? = some (.cells #[.int .i64 0, .int .i64 0, .int .i64 0, .int .i64 0, .slice none 0 0, .slice none 0 0, .slice none 0 0] 109)) := (hb3.block _ (lt_of_heap P2_3.out)).trans P2_3.out
    have P3_4 : Hid (w3.heap[w1.heap.size]? = some (.cells #[.int .i64 ho, .int .i64 hn, .int .i64 hm, .int .i64 ha, .slice b1 r1.length d1, .slice none 0 0, .slice none 0 0] 109)) := (hb3.block _ (lt_of_heap P3_3.out)).trans P3_3.out
    have HB3' := hid (thenB HB3.out hb3)
    have HM1' := hid (HM1.out.later hb3)
    clear hb3 HC3 P0_3 P1_3 P2_3 P3_3 HM1 HB3
    clear b0 b1_ bf s0 s1 s2 s3 s4 s5 sf r0 r1_ r2_ r3_ r4 r5 r6 rf t0 t1 t2 t3 t4 t5 t6 tf hl0 hl1 hl2 hl3
    obtain ⟨b0, b1_, bf⟩ := cellsOf2 P0_4.out
    obtain ⟨s0, s1, s2, s3, s4, s5, sf⟩ := cellsOf6 P1_4.out
    obtain ⟨r0, r1_, r2_, r3_, r4, r5, r6, rf⟩ := cellsOf7 P2_4.out
    obtain ⟨t0, t1, t2, t3, t4, t5, t6, tf⟩ := cellsOf7 P3_4.out
    have hl0 := lt_of_heap P0_4.out
    have hl1 := lt_of_heap P1_4.out
    have hl2 := lt_of_heap P2_4.out
    have hl3 := lt_of_heap P3_4.out
    cases hr2 : rsSs K L x.body with
    | error c =>
      rw [hr2] at hend
      obtain ⟨rfl, hne⟩ := hend
      have HF := hid (rsS_body (by rw [HH.out]) HR1.out hr2)
      clear hr2
      go_wp2_with fail
      refine bodyPost_ret (v := .tuple #[.agg #[.int .i64 0, .int .i64 0, .int .i64 0, .int .i64 0, .slice none 0 0, .slice none 0 0, .slice none 0 0], .int .i64 c]) (by simp [results, Tryz.results162, go_sem, r0, r1_, r2_, r3_, r4, r5, r6, hl2]) rfl ⟨by rw [HF.out]; exact ⟨_, _, _, _, _, _, _, _, _, _, _, _, _, rfl, hne⟩, ?_⟩
      exact bset7 (HB3'.out.setCell (p := ⟨w1.heap.size, 5, none⟩) (by show w.heap.size ≤ w1.heap.size; omega) _) (by omega) _ _ _ _ _ _ _
    | ok r2 =>
      rw [hr2] at hend
      obtain ⟨b2, d2, rfl, he2⟩ := hend
      have HR2 := hid hr2
      have HE2 := hid he2
      clear hr2 he2
      have P0_5 : Hid ((w3.setCell ⟨w1.heap.size, 5, none⟩ (.slice b2 r2.length d2)).heap[w.heap.size]? = some (.cells #[kv, lv] 195)) := (heap_set_ne (by show w.heap.size ≠ w1.heap.size; omega) _).trans P0_4.out
      have P1_5 : Hid ((w3.setCell ⟨w1.heap.size, 5, none⟩ (.slice b2 r2.length d2)).heap[w.heap.size + 1]? = some (.cells #[.int .i64 x.op, .string x.mod, .string x.name, .slice a1 x.args.length c1, .slice a2 x.body.length c2, .slice a3 x.other.length c3] 176)) := (heap_set_ne (by show w.heap.size + 1 ≠ w1.heap.size; omega) _).trans P1_4.out
      have P2_5 : Hid ((w3.setCell ⟨w1.heap.size, 5, none⟩ (.slice b2 r2.length d2)).heap[w.heap.size + 2]? = some (.cells #[.int .i64 0, .int .i64 0, .int .i64 0, .int .i64 0, .slice none 0 0, .slice none 0 0, .slice none 0 0] 109)) := (heap_set_ne (by show w.heap.size + 2 ≠ w1.heap.size; omega) _).trans P2_4.out
      have P3_5 : Hid ((w3.setCell ⟨w1.heap.size, 5, none⟩ (.slice b2 r2.length d2)).heap[w1.heap.size]? = some (.cells #[.int .i64 ho, .int .i64 hn, .int .i64 hm, .int .i64 ha, .slice b1 r1.length d1, .slice b2 r2.length d2, .slice none 0 0] 109)) := heap_set P3_4.out _
      have HB5 : Hid (Below w.heap.size w (w3.setCell ⟨w1.heap.size, 5, none⟩ (.slice b2 r2.length d2))) := HB3'.out.setCell (p := ⟨w1.heap.size, 5, none⟩) (by show w.heap.size ≤ w1.heap.size; omega) _
      have hmv : Moves w3 (w1.heap.size + 1 ≤ ·) (w3.setCell ⟨w1.heap.size, 5, none⟩ (.slice b2 r2.length d2)) (w1.heap.size + 1 ≤ ·) := (Moves.refl w3 _).set (p := ⟨w1.heap.size, 5, none⟩) (by intro b _ hb; show b ≠ w1.heap.size; have : w1.heap.size + 1 ≤ b := hb; omega) _
      have HM1 : Hid (EAt (w3.setCell ⟨w1.heap.size, 5, none⟩ (.slice b2 r2.length d2)) (w1.heap.size + 1 ≤ ·) b1 r1.length (ndsD r1)) := HM1'.out.moves hmv
      have HM2 : Hid (EAt (w3.setCell ⟨w1.heap.size, 5, none⟩ (.slice b2 r2.length d2)) (w1.heap.size + 1 ≤ ·) b2 r2.length (acsD r2)) := (HE2.out.moves ⟨Nat.le_refl _, fun b _ h => ⟨by rw [HZ3.out] at h; show w1.heap.size + 1 ≤ b; omega, rfl⟩⟩ : EAt w3 (w1.heap.size + 1 ≤ ·) b2 r2.length (acsD r2)).moves hmv
      have HC5 := hid (HOt.out K L kv lv A a3 c3 (w3.setCell ⟨w1.heap.size, 5, none⟩ (.slice b2 r2.length d2)) (HK.out.later HB5.out) (HL.out.later HB5.out) (HD3.out.later HB5.out))
      have HZ5 : Hid ((w3.setCell ⟨w1.heap.size, 5, none⟩ (.slice b2 r2.length d2)).heap.size = w3.heap.size) := World.size_setCell ..
      clear HE2 P0_4 P1_4 P2_4 P3_4 HM1' HB3' hmv
      go_wp2_with fail
      refine HC5.out.mono ?_
      rintro e w5 ⟨hend, hb5⟩
      have hz5 := hb5.size
      rw [HZ5.out] at hz5
      have P0_6 : Hid (w5.heap[w.heap.size]? = some (.cells #[kv, lv] 195)) := (hb5.block _ (lt_of_heap P0_5.out)).trans P0_5.out
      have P1_6 : Hid (w5.heap[w.heap.size + 1]? = some (.cells #[.int .i64 x.op, .string x.mod, .string x.name, .slice a1 x.args.length c1, .slice a2 x.body.length c2, .slice a3 x.other.length c3] 176)) := (hb5.block _ (lt_of_heap P1_5.out)).trans P1_5.out
      have P2_6 : Hid (w5.heap[w.heap.size + 2]? = some (.cells #[.int .i64 0, .int .i64 0, .int .i64 0, .int .i64 0, .slice none 0 0, .slice none 0 0, .slice none 0 0] 109)) := (hb5.block _ (lt_of_heap P2_5.out)).trans P2_5.out
      have P3_6 : Hid (w5.heap[w1.heap.size]? = some (.cells #[.int .i64 ho, .int .i64 hn, .int .i64 hm, .int .i64 ha, .slice b1 r1.length d1, .slice b2 r2.length d2, .slice none 0 0] 109)) := (hb5.block _ (lt_of_heap P3_5.out)).trans P3_5.out
      have HB6 := hid (thenB HB5.out hb5)
      have HM1' := hid (HM1.out.later hb5)
      have HM2' := hid (HM2.out.later hb5)
      clear hb5 HC5 P0_5 P1_5 P2_5 P3_5 HM1 HM2 HB5
      clear b0 b1_ bf s0 s1 s2 s3 s4 s5 sf r0 r1_ r2_ r3_ r4 r5 r6 rf t0 t1 t2 t3 t4 t5 t6 tf hl0 hl1 hl2 hl3
      obtain ⟨b0, b1_, bf⟩ := cellsOf2 P0_6.out
      obtain ⟨s0, s1, s2, s3, s4, s5, sf⟩ := cellsOf6 P1_6.out
      obtain ⟨r0, r1_, r2_, r3_, r4, r5, r6, rf⟩ := cellsOf7 P2_6.out
      obtain ⟨t0, t1, t2, t3, t4, t5, t6, tf⟩ := cellsOf7 P3_6.out
      have hl0 := lt_of_heap P0_6.out
      have hl1 := lt_of_heap P1_6.out
      have hl2 := lt_of_heap P2_6.out
      have hl3 := lt_of_heap P3_6.out
      cases hr3 : rsSs K L x.other with
      | error c =>
        rw [hr3] at hend
        obtain ⟨rfl, hne⟩ := hend
        have HF := hid (rsS_other (by rw [HH.out]) HR1.out HR2.out hr3)
        clear hr3
        go_wp2_with fail
        refine bodyPost_ret (v := .tuple #[.agg #[.int .i64 ho, .int .i64 hn, .int .i64 hm, .int .i64 ha, .slice b1 r1.length d1, .slice b2 r2.length d2, .slice none 0 0], .int .i64 c]) (by simp [results, Tryz.results162, go_sem, r0, r1_, r2_, r3_, r4, r5, r6, hl2]) rfl ⟨by rw [HF.out]; exact ⟨_, _, _, _, _, _, _, _, _, _, _, _, _, rfl, hne⟩, ?_⟩
        exact bset7 (HB6.out.setCell (p := ⟨w1.heap.size, 6, none⟩) (by show w.heap.size ≤ w1.heap.size; omega) _) (by omega) _ _ _ _ _ _ _
      | ok r3 =>
        rw [hr3] at hend
        obtain ⟨b3, d3, rfl, he3⟩ := hend
        have HF := hid (rsS_ok (by rw [HH.out]) HR1.out HR2.out hr3)
        rw [HH.out] at HF
        simp only [] at HF
        have HM3 : Hid (EAt w5 (w1.heap.size + 1 ≤ ·) b3 r3.length (acsD r3)) := he3.moves ⟨Nat.le_refl _, fun b _ h => ⟨by rw [HZ5.out] at h; show w1.heap.size + 1 ≤ b; omega, rfl⟩⟩
        have HMv : Hid (∀ v0 v1 v2 v3 v4 v5 v6, Moves w5 (w1.heap.size + 1 ≤ ·) (((set5 (w5.setCell ⟨w1.heap.size, 6, none⟩ (.slice b3 r3.length d3)) (w.heap.size + 1 + 1) v0 v1 v2 v3 v4).setCell ⟨w.heap.size + 1 + 1, 5, none⟩ v5).setCell ⟨w.heap.size + 1 + 1, 6, none⟩ v6) (w.heap.size ≤ ·)) := fun v0 v1 v2 v3 v4 v5 v6 =>
          (((((Moves.refl w5 (w1.heap.size + 1 ≤ ·)).set (p := ⟨w1.heap.size, 6, none⟩) (by intro b _ hb; show b ≠ w1.heap.size; have : w1.heap.size + 1 ≤ b := hb; omega) _).set5 (b := w.heap.size + 1 + 1) (by intro b _ hb; have : w1.heap.size + 1 ≤ b := hb; omega) v0 v1 v2 v3 v4).set (p := ⟨w.heap.size + 1 + 1, 5, none⟩) (by intro b _ hb; show b ≠ w.heap.size + 1 + 1; have : w1.heap.size + 1 ≤ b := hb; omega) v5).set (p := ⟨w.heap.size + 1 + 1, 6, none⟩) (by intro b _ hb; show b ≠ w.heap.size + 1 + 1; have : w1.heap.size + 1 ≤ b := hb; omega) v6).trans ⟨Nat.le_refl _, fun b _ h => ⟨by have : w1.heap.size + 1 ≤ b := h; show w.heap.size ≤ b; omega, rfl⟩⟩
        clear hr3 he3
        go_wp2_with fail
        refine bodyPost_ret (v := .tuple #[.agg #[.int .i64 ho, .int .i64 hn, .int .i64 hm, .int .i64 ha, .slice b1 r1.length d1, .slice b2 r2.length d2, .slice b3 r3.length d3], .int .i64 0]) (by simp [results, Tryz.results162, go_sem, r0, r1_, r2_, r3_, r4, r5, r6, hl2]) rfl ⟨by rw [HF.out]; exact ⟨b1, d1, b2, d2, b3, d3, rfl, HM1'.out.moves (HMv.out _ _ _ _ _ _ _), HM2'.out.moves (HMv.out _ _ _ _ _ _ _), HM3.out.moves (HMv.out _ _ _ _ _ _ _)⟩, ?_⟩
        exact bset7 (HB6.out.setCell (p := ⟨w1.heap.size, 6, none⟩) (by show w.heap.size ≤ w1.heap.size; omega) _) (by omega) _ _ _ _ _ _ _
theorem acts_any : ∀ (k : Nat) (l : List St), stMany k l = false → ActsOk l
  | 0, l, h => by simp [stMany] at h
  | k + 1, l, h => by
    simp only [stMany, Bool.or_eq_false_iff] at h
    have h1 := of_decide_eq_false h.1
    refine acts_step l (by omega) fun j hj => ?_
    have := h.2
    rw [List.any_eq_false] at this
    have hx := this l[j] (List.getElem_mem _)
    simp only [Bool.not_eq_true, Bool.or_eq_false_iff, Bool.and_eq_false_iff] at hx
    have none_ok : ActsOk [] := acts_step [] (by simp) (fun j hj => by simp at hj)
    have nil_of : ∀ b : List St, decide (0 < b.length) = false → ActsOk b := fun b h => by
      have : b = [] := List.eq_nil_of_length_eq_zero (by have := of_decide_eq_false h; omega)
      rw [this]; exact none_ok
    exact act_step _ (nodes_any 6 _ hx.1) (hx.2.1.elim (fun h => nil_of _ h.2) (acts_any k _)) (hx.2.2.elim (nil_of _) (acts_any k _))
end Go.Proofs.YtndkhgakfodldaaGreatDoor
