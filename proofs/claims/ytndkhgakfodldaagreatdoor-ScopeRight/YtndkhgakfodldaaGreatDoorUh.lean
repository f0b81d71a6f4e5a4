/-
  Package scope: a statement is resolved, and so are blocks.
-/
import Derived.Test.YtndkhgakfodldaaGreatDoorUf
import Derived.Test.YtndkhgakfodldaaGreatDoorPure
import Derived.Shelf.Abstract
import Derived.Handy
namespace Go.Proofs.YtndkhgakfodldaaGreatDoor
open Go.RowKit Go.Maps Go.WideMaps
set_option linter.unusedSimpArgs false

theorem EAt.later {w w' : World} {A : Nat → Prop} {a : Option Addr} {n : Nat} {ds : List D} (h : EAt w A a n ds) (hb : Below w.heap.size w w') : EAt w' A a n ds := h.moves (Moves.of_below hb A)
theorem rsS_alone {K : Kn} {L : Lc} {x : St} (h : (acM K L x).err ≠ 0) : rsS K L x = .error (acM K L x).err := by rw [rsS_eq, alE_no h]; rfl
theorem rsS_args {K : Kn} {L : Lc} {x : St} {c : Int} (h : (acM K L x).err = 0) (h1 : rsEs K L x.args = .error c) : rsS K L x = .error c := by rw [rsS_eq, alE_ok h, h1]; rfl
theorem rsS_body {K : Kn} {L : Lc} {x : St} {c : Int} {l : List Nd} (h : (acM K L x).err = 0) (h1 : rsEs K L x.args = .ok l) (h2 : rsSs K L x.body = .error c) : rsS K L x = .error c := by rw [rsS_eq, alE_ok h, h1, h2]; rfl
theorem rsS_other {K : Kn} {L : Lc} {x : St} {c : Int} {l : List Nd} {b : List Ac} (h : (acM K L x).err = 0) (h1 : rsEs K L x.args = .ok l) (h2 : rsSs K L x.body = .ok b) (h3 : rsSs K L x.other = .error c) : rsS K L x = .error c := by rw [rsS_eq, alE_ok h, h1, h2, h3]; rfl
theorem rsS_ok {K : Kn} {L : Lc} {x : St} {l : List Nd} {b o : List Ac} (h : (acM K L x).err = 0) (h1 : rsEs K L x.args = .ok l) (h2 : rsSs K L x.body = .ok b) (h3 : rsSs K L x.other = .ok o) : rsS K L x = .ok (.mk (acM K L x).op (acM K L x).n (acM K L x).m (acM K L x).at_ l b o) := by rw [rsS_eq, alE_ok h, h1, h2, h3]; rfl
set_option maxRecDepth 100000 in
set_option maxHeartbeats 8000000 in
theorem act_step (x : St) (hn : NodesOk x.args) (hb : ActsOk x.body) (ho : ActsOk x.other) : ActOk x := by
  intro K L kv lv A a1 c1 a2 c2 a3 c3 w hK hL hm hnm hd1 hd2 hd3
  have HC := hid (actAlone_any K L kv lv x a1 a2 a3 c1 c2 c3 (((w.alloc (.cells #[kv, lv] 195)).alloc (.cells #[.int .i64 x.op, .string x.mod, .string x.name, .slice a1 x.args.length c1, .slice a2 x.body.length c2, .slice a3 x.other.length c3] 176)).alloc (.cells #[.int .i64 0, .int .i64 0, .int .i64 0, .int .i64 0, .slice none 0 0, .slice none 0 0, .slice none 0 0] 109)) (hK.later (bl3 _ _ _ _)) (hL.later (bl3 _ _ _ _)) hm hnm)
  have HK := hid hK
  have HL := hid hL
  have HD1 := hid hd1
  have HD2 := hid hd2
  have HD3 := hid hd3
  have HN := hid hn
  have HBo := hid hb
  have HOt := hid ho
  have HB := hid (fun o p q => bl3 w o p q)
  clear hn hb ho hK hL hm hnm hd1 hd2 hd3
  go_enter Tryz.func162, Tryz.ntmps162
  go_wp2_with fail
  refine HC.out.mono ?_
  have HG : Hid (∀ h, acM K L x = h → acM K L x = h) := fun h e => e
  generalize hh : acM K L x = h at HC ⊢
  obtain ⟨ho, hn, hm, ha, he⟩ := h
  simp only [Al.act]
  rintro e w1 ⟨rfl, hb1⟩
  have HB1 := hid (thenB (HB.out _ _ _) hb1)
  have hz1 := hb1.size
  simp at hz1
  obtain ⟨q0, q1, q2⟩ := kept3 hb1
  have HH := hid hh
  have P0_0 := hid q0
  have P1_0 := hid q1
  have P2_0 := hid q2
  clear hb1 HC q0 q1 q2 hh HG
  obtain ⟨b0, b1_, bf⟩ := cellsOf2 P0_0.out
  obtain ⟨s0, s1, s2, s3, s4, s5, sf⟩ := cellsOf6 P1_0.out
  obtain ⟨r0, r1_, r2_, r3_, r4, r5, r6, rf⟩ := cellsOf7 P2_0.out
  have hl0 := lt_of_heap P0_0.out
  have hl1 := lt_of_heap P1_0.out
  have hl2 := lt_of_heap P2_0.out
  by_cases hee : he = 0
  case neg =>
    have HF := hid ((rsS_alone (by rw [HH.out]; exact hee)).trans (by rw [HH.out]) : rsS K L x = .error he)
    have hne := hee
    go_wp2_with fail
    refine bodyPost_ret (v := .tuple #[.agg #[.int .i64 0, .int .i64 0, .int .i64 0, .int .i64 0, .slice none 0 0, .slice none 0 0, .slice none 0 0], .int .i64 he]) (by simp [results, Tryz.results162, go_sem, r0, r1_, r2_, r3_, r4, r5, r6, hl2]) rfl ⟨by rw [HF.out]; exact ⟨_, _, _, _, _, _, _, _, _, _, _, _, _, rfl, hne⟩, ?_⟩
    exact (bset7 HB1.out (by omega) _ _ _ _ _ _ _).alloc (by simp; omega) _
  subst hee
  have P3_1 : Hid ((w1.alloc (.cells #[.int .i64 ho, .int .i64 hn, .int .i64 hm, .int .i64 ha, .slice none 0 0, .slice none 0 0, .slice none 0 0] 109)).heap[w1.heap.size]? = some (.cells #[.int .i64 ho, .int .i64 hn, .int .i64 hm, .int .i64 ha, .slice none 0 0, .slice none 0 0, .slice none 0 0] 109)) := heap_newP _ _
  have P0_1 : Hid ((w1.alloc (.cells #[.int .i64 ho, .int .i64 hn, .int .i64 hm, .int .i64 ha, .slice none 0 0, .slice none 0 0, .slice none 0 0] 109)).heap[w.heap.size]? = some (.cells #[kv, lv] 195)) := heap_old P0_0.out
  have P1_1 : Hid ((w1.alloc (.cells #[.int .i64 ho, .int .i64 hn, .int .i64 hm, .int .i64 ha, .slice none 0 0, .slice none 0 0, .slice none 0 0] 109)).heap[w.heap.size + 1]? = some (.cells #[.int .i64 x.op, .string x.mod, .string x.name, .slice a1 x.args.length c1, .slice a2 x.body.length c2, .slice a3 x.other.length c3] 176)) := heap_old P1_0.out
  have P2_1 : Hid ((w1.alloc (.cells #[.int .i64 ho, .int .i64 hn, .int .i64 hm, .int .i64 ha, .slice none 0 0, .slice none 0 0, .slice none 0 0] 109)).heap[w.heap.size + 2]? = some (.cells #[.int .i64 0, .int .i64 0, .int .i64 0, .int .i64 0, .slice none 0 0, .slice none 0 0, .slice none 0 0] 109)) := heap_old P2_0.out
  have HB4 : Hid (Below w.heap.size w (w1.alloc (.cells #[.int .i64 ho, .int .i64 hn, .int .i64 hm, .int .i64 ha, .slice none 0 0, .slice none 0 0, .slice none 0 0] 109))) := thenB HB1.out (al1 _ _)
  have HC2 := hid (HN.out K L kv lv A a1 c1 (w1.alloc (.cells #[.int .i64 ho, .int .i64 hn, .int .i64 hm, .int .i64 ha, .slice none 0 0, .slice none 0 0, .slice none 0 0] 109)) (HK.out.later HB4.out) (HL.out.later HB4.out) (HD1.out.later HB4.out))
  go_wp2_with fail
  refine HC2.out.mono ?_
  rintro e w2 ⟨hend, hb2⟩
  have hz2 := hb2.size
  simp at hz2
  have P0_2 : Hid (w2.heap[w.heap.size]? = some (.cells #[kv, lv] 195)) := (hb2.block _ (lt_of_heap P0_1.out)).trans P0_1.out
  have P1_2 : Hid (w2.heap[w.heap.size + 1]? = some (.cells #[.int .i64 x.op, .string x.mod, .string x.name, .slice a1 x.args.length c1, .slice a2 x.body.length c2, .slice a3 x.other.length c3] 176)) := (hb2.block _ (lt_of_heap P1_1.out)).trans P1_1.out
  have P2_2 : Hid (w2.heap[w.heap.size + 2]? = some (.cells #[.int .i64 0, .int .i64 0, .int .i64 0, .int .i64 0, .slice none 0 0, .slice none 0 0, .slice none 0 0] 109)) := (hb2.block _ (lt_of_heap P2_1.out)).trans P2_1.out
  have P3_2 : Hid (w2.heap[w1.heap.size]? = some (.cells #[.int .i64 ho, .int .i64 hn, .int .i64 hm, .int .i64 ha, .slice none 0 0, .slice none 0 0, .slice none 0 0] 109)) := (hb2.block _ (lt_of_heap P3_1.out)).trans P3_1.out
  have HB2 := hid (thenB HB4.out hb2)
  clear hb2 HC2 P0_0 P1_0 P2_0 P0_1 P1_1 P2_1 P3_1 b0 b1_ bf s0 s1 s2 s3 s4 s5 sf r0 r1_ r2_ r3_ r4 r5 r6 rf hl0 hl1 hl2
  obtain ⟨b0, b1_, bf⟩ := cellsOf2 P0_2.out
  obtain ⟨s0, s1, s2, s3, s4, s5, sf⟩ := cellsOf6 P1_2.out
  obtain ⟨r0, r1_, r2_, r3_, r4, r5, r6, rf⟩ := cellsOf7 P2_2.out
  obtain ⟨t0, t1, t2, t3, t4, t5, t6, tf⟩ := cellsOf7 P3_2.out
  have hl0 := lt_of_heap P0_2.out
  have hl1 := lt_of_heap P1_2.out
  have hl2 := lt_of_heap P2_2.out
  have hl3 := lt_of_heap P3_2.out
  cases hr1 : rsEs K L x.args with
  | error c =>
    rw [hr1] at hend
    obtain ⟨rfl, hne⟩ := hend
    have HF := hid (rsS_args (by rw [HH.out]) hr1)
    clear hr1
    go_wp2_with fail
    refine bodyPost_ret (v := .tuple #[.agg #[.int .i64 0, .int .i64 0, .int .i64 0, .int .i64 0, .slice none 0 0, .slice none 0 0, .slice none 0 0], .int .i64 c]) (by simp [results, Tryz.results162, go_sem, r0, r1_, r2_, r3_, r4, r5, r6, hl2]) rfl ⟨by rw [HF.out]; exact ⟨_, _, _, _, _, _, _, _, _, _, _, _, _, rfl, hne⟩, ?_⟩
    exact bset7 (HB2.out.setCell (p := ⟨w1.heap.size, 4, none⟩) (by show w.heap.size ≤ w1.heap.size; omega) _) (by omega) _ _ _ _ _ _ _
  | ok r1 =>
    rw [hr1] at hend
    obtain ⟨b1, d1, rfl, he1⟩ := hend
    have HR1 := hid hr1
    have HE1 := hid he1
    clear hr1 he1
    have P0_3 : Hid ((w2.setCell ⟨w1.heap.size, 4, none⟩ (.slice b1 r1.length d1)).heap[w.heap.size]? = some (.cells #[kv, lv] 195)) := (heap_set_ne (by show w.heap.size ≠ w1.heap.size; omega) _).trans P0_2.out
    have P1_3 : Hid ((w2.setCell ⟨w1.heap.size, 4, none⟩ (.slice b1 r1.length d1)).heap[w.heap.size + 1]? = some (.cells #[.int .i64 x.op, .string x.mod, .string x.name, .slice a1 x.args.length c1, .slice a2 x.body.length c2, .slice a3 x.other.length c3] 176)) := (heap_set_ne (by show w.heap.size + 1 ≠ w1.heap.size; omega) _).trans P1_2.out
    have P2_3 : Hid ((w2.setCell ⟨w1.heap.size, 4, none⟩ (.slice b1 r1.length d1)).heap[w.heap.size + 2]? = some (.cells #[.int .i64 0, .int .i64 0, .int .i64 0, .int .i64 0, .slice none 0 0, .slice none 0 0, .slice none 0 0] 109)) := (heap_set_ne (by show w.heap.size + 2 ≠ w1.heap.size; omega) _).trans P2_2.out
    have P3_3 : Hid ((w2.setCell ⟨w1.heap.size, 4, none⟩ (.slice b1 r1.length d1)).heap[w1.heap.size]? = some (.cells #[.int .i64 ho, .int .i64 hn, .int .i64 hm, .int .i64 ha, .slice b1 r1.length d1, .slice none 0 0, .slice none 0 0] 109)) := heap_set P3_2.out _
    have HB3 : Hid (Below w.heap.size w (w2.setCell ⟨w1.heap.size, 4, none⟩ (.slice b1 r1.length d1))) := HB2.out.setCell (p := ⟨w1.heap.size, 4, none⟩) (by show w.heap.size ≤ w1.heap.size; omega) _
    have HM1 : Hid (EAt (w2.setCell ⟨w1.heap.size, 4, none⟩ (.slice b1 r1.length d1)) (w1.heap.size + 1 ≤ ·) b1 r1.length (ndsD r1)) := (HE1.out.moves ((Moves.refl w2 _).set (p := ⟨w1.heap.size, 4, none⟩) (by intro b _ hb; simp at hb; show b ≠ w1.heap.size; omega) _)).moves ⟨Nat.le_refl _, fun b _ h => ⟨by simp at h; exact h, rfl⟩⟩
    have HC3 := hid (HBo.out K L kv lv A a2 c2 (w2.setCell ⟨w1.heap.size, 4, none⟩ (.slice b1 r1.length d1)) (HK.out.later HB3.out) (HL.out.later HB3.out) (HD2.out.later HB3.out))
    have HZ3 : Hid ((w2.setCell ⟨w1.heap.size, 4, none⟩ (.slice b1 r1.length d1)).heap.size = w2.heap.size) := World.size_setCell ..
    clear HE1 P0_2 P1_2 P2_2 P3_2
    go_wp2_with fail
    refine HC3.out.mono ?_
    rintro e w3 ⟨hend, hb3⟩
    have hz3 := hb3.size
    rw [HZ3.out] at hz3
    have P0_4 : Hid (w3.heap[w.heap.size]? = some (.cells #[kv, lv] 195)) := (hb3.block _ (lt_of_heap P0_3.out)).trans P0_3.out
    have P1_4 : Hid (w3.heap[w.heap.size + 1]? = some (.cells #[.int .i64 x.op, .string x.mod, .string x.name, .slice a1 x.args.length c1, .slice a2 x.body.length c2, .slice a3 x.other.length c3] 176)) := (hb3.block _ (lt_of_heap P1_3.out)).trans P1_3.out
    have P2_4 : Hid (w3.heap[w.heap.size + 2]? = some (.cells #[.int .i64 0, .int .i64 0, .int .i64 0, .int .i64 0, .slice none 0 0, .slice none 0 0, .slice none 0 0] 109)) := (hb3.block _ (lt_of_heap P2_3.out)).trans P2_3.out
    have P3_4 : Hid (w3.heap[w1.heap.size]? = some (.cells #[.int .i64 ho, .int .i64 hn, .int .i64 hm, .int .i64 ha, .slice b1 r1.length d1, .slice none 0 0, .slice none 0 0] 109)) := (hb3.block _ (lt_of_heap P3_3.out)).trans P3_3.out
    have HB3' := hid (thenB HB3.out hb3)
    have HM1' := hid (HM1.out.later hb3)
    clear hb3 HC3 P0_3 P1_3 P2_3 P3_3 HM1 HB3
    clear b0 b1_ bf s0 s1 s2 s3 s4 s5 sf r0 r1_ r2_ r3_ r4 r5 r6 rf t0 t1 t2 t3 t4 t5 t6 tf hl0 hl1 hl2 hl3
    obtain ⟨b0, b1_, bf⟩ := cellsOf2 P0_4.out
    obtain ⟨s0, s1, s2, s3, s4, s5, sf⟩ := cellsOf6 P1_4.out
    obtain ⟨r0, r1_, r2_, r3_, r4, r5, r6, rf⟩ := cellsOf7 P2_4.out
    obtain ⟨t0, t1, t2, t3, t4, t5, t6, tf⟩ := cellsOf7 P3_4.out
    have hl0 := lt_of_heap P0_4.out
    have hl1 := lt_of_heap P1_4.out
    have hl2 := lt_of_heap P2_4.out
    have hl3 := lt_of_heap P3_4.out
    cases hr2 : rsSs K L x.body with
    | error c =>
      rw [hr2] at hend
      obtain ⟨rfl, hne⟩ := hend
      have HF := hid (rsS_body (by rw [HH.out]) HR1.out hr2)
      clear hr2
      go_wp2_with fail
      refine bodyPost_ret (v := .tuple #[.agg #[.int .i64 0, .int .i64 0, .int .i64 0, .int .i64 0, .slice none 0 0, .slice none 0 0, .slice none 0 0], .int .i64 c]) (by simp [results, Tryz.results162, go_sem, r0, r1_, r2_, r3_, r4, r5, r6, hl2]) rfl ⟨by rw [HF.out]; exact ⟨_, _, _, _, _, _, _, _, _, _, _, _, _, rfl, hne⟩, ?_⟩
      exact bset7 (HB3'.out.setCell (p := ⟨w1.heap.size, 5, none⟩) (by show w.heap.size ≤ w1.heap.size; omega) _) (by omega) _ _ _ _ _ _ _
    | ok r2 =>
      rw [hr2] at hend
      obtain ⟨b2, d2, rfl, he2⟩ := hend
      have HR2 := hid hr2
      have HE2 := hid he2
      clear hr2 he2
      have P0_5 : Hid ((w3.setCell ⟨w1.heap.size, 5, none⟩ (.slice b2 r2.length d2)).heap[w.heap.size]? = some (.cells #[kv, lv] 195)) := (heap_set_ne (by show w.heap.size ≠ w1.heap.size; omega) _).trans P0_4.out
      have P1_5 : Hid ((w3.setCell ⟨w1.heap.size, 5, none⟩ (.slice b2 r2.length d2)).heap[w.heap.size + 1]? = some (.cells #[.int .i64 x.op, .string x.mod, .string x.name, .slice a1 x.args.length c1, .slice a2 x.body.length c2, .slice a3 x.other.length c3] 176)) := (heap_set_ne (by show w.heap.size + 1 ≠ w1.heap.size; omega) _).trans P1_4.out
      have P2_5 : Hid ((w3.setCell ⟨w1.heap.size, 5, none⟩ (.slice b2 r2.length d2)).heap[w.heap.size + 2]? = some (.cells #[.int .i64 0, .int .i64 0, .int .i64 0, .int .i64 0, .slice none 0 0, .slice none 0 0, .slice none 0 0] 109)) := (heap_set_ne (by show w.heap.size + 2 ≠ w1.heap.size; omega) _).trans P2_4.out
      have P3_5 : Hid ((w3.setCell ⟨w1.heap.size, 5, none⟩ (.slice b2 r2.length d2)).heap[w1.heap.size]? = some (.cells #[.int .i64 ho, .int .i64 hn, .int .i64 hm, .int .i64 ha, .slice b1 r1.length d1, .slice b2 r2.length d2, .slice none 0 0] 109)) := heap_set P3_4.out _
      have HB5 : Hid (Below w.heap.size w (w3.setCell ⟨w1.heap.size, 5, none⟩ (.slice b2 r2.length d2))) := HB3'.out.setCell (p := ⟨w1.heap.size, 5, none⟩) (by show w.heap.size ≤ w1.heap.size; omega) _
      have hmv : Moves w3 (w1.heap.size + 1 ≤ ·) (w3.setCell ⟨w1.heap.size, 5, none⟩ (.slice b2 r2.length d2)) (w1.heap.size + 1 ≤ ·) := (Moves.refl w3 _).set (p := ⟨w1.heap.size, 5, none⟩) (by intro b _ hb; show b ≠ w1.heap.size; have : w1.heap.size + 1 ≤ b := hb; omega) _
      have HM1 : Hid (EAt (w3.setCell ⟨w1.heap.size, 5, none⟩ (.slice b2 r2.length d2)) (w1.heap.size + 1 ≤ ·) b1 r1.length (ndsD r1)) := HM1'.out.moves hmv
      have HM2 : Hid (EAt (w3.setCell ⟨w1.heap.size, 5, none⟩ (.slice b2 r2.length d2)) (w1.heap.size + 1 ≤ ·) b2 r2.length (acsD r2)) := (HE2.out.moves ⟨Nat.le_refl _, fun b _ h => ⟨by rw [HZ3.out] at h; show w1.heap.size + 1 ≤ b; omega, rfl⟩⟩ : EAt w3 (w1.heap.size + 1 ≤ ·) b2 r2.length (acsD r2)).moves hmv
      have HC5 := hid (HOt.out K L kv lv A a3 c3 (w3.setCell ⟨w1.heap.size, 5, none⟩ (.slice b2 r2.length d2)) (HK.out.later HB5.out) (HL.out.later HB5.out) (HD3.out.later HB5.out))
      have HZ5 : Hid ((w3.setCell ⟨w1.heap.size, 5, none⟩ (.slice b2 r2.length d2)).heap.size = w3.heap.size) := World.size_setCell ..
      clear HE2 P0_4 P1_4 P2_4 P3_4 HM1' HB3' hmv
      go_wp2_with fail
      refine HC5.out.mono ?_
      rintro e w5 ⟨hend, hb5⟩
      have hz5 := hb5.size
      rw [HZ5.out] at hz5
      have P0_6 : Hid (w5.heap[w.heap.size]? = some (.cells #[kv, lv] 195)) := (hb5.block _ (lt_of_heap P0_5.out)).trans P0_5.out
      have P1_6 : Hid (w5.heap[w.heap.size + 1]? = some (.cells #[.int .i64 x.op, .string x.mod, .string x.name, .slice a1 x.args.length c1, .slice a2 x.body.length c2, .slice a3 x.other.length c3] 176)) := (hb5.block _ (lt_of_heap P1_5.out)).trans P1_5.out
      have P2_6 : Hid (w5.heap[w.heap.size + 2]? = some (.cells #[.int .i64 0, .int .i64 0, .int .i64 0, .int .i64 0, .slice none 0 0, .slice none 0 0, .slice none 0 0] 109)) := (hb5.block _ (lt_of_heap P2_5.out)).trans P2_5.out
      have P3_6 : Hid (w5.heap[w1.heap.size]? = some (.cells #[.int .i64 ho, .int .i64 hn, .int .i64 hm, .int .i64 ha, .slice b1 r1.length d1, .slice b2 r2.length d2, .slice none 0 0] 109)) := (hb5.block _ (lt_of_heap P3_5.out)).trans P3_5.out
      have HB6 := hid (thenB HB5.out hb5)
      have HM1' := hid (HM1.out.later hb5)
      have HM2' := hid (HM2.out.later hb5)
      clear hb5 HC5 P0_5 P1_5 P2_5 P3_5 HM1 HM2 HB5
      clear b0 b1_ bf s0 s1 s2 s3 s4 s5 sf r0 r1_ r2_ r3_ r4 r5 r6 rf t0 t1 t2 t3 t4 t5 t6 tf hl0 hl1 hl2 hl3
      obtain ⟨b0, b1_, bf⟩ := cellsOf2 P0_6.out
      obtain ⟨s0, s1, s2, s3, s4, s5, sf⟩ := cellsOf6 P1_6.out
      obtain ⟨r0, r1_, r2_, r3_, r4, r5, r6, rf⟩ := cellsOf7 P2_6.out
      obtain ⟨t0, t1, t2, t3, t4, t5, t6, tf⟩ := cellsOf7 P3_6.out
      have hl0 := lt_of_heap P0_6.out
      have hl1 := lt_of_heap P1_6.out
      have hl2 := lt_of_heap P2_6.out
      have hl3 := lt_of_heap P3_6.out
      cases hr3 : rsSs K L x.other with
      | error c =>
        rw [hr3] at hend
        obtain ⟨rfl, hne⟩ := hend
        have HF := hid (rsS_other (by rw [HH.out]) HR1.out HR2.out hr3)
        clear hr3
        go_wp2_with fail
        refine bodyPost_ret (v := .tuple #[.agg #[.int .i64 ho, .int .i64 hn, .int .i64 hm, .int .i64 ha, .slice b1 r1.length d1, .slice b2 r2.length d2, .slice none 0 0], .int .i64 c]) (by simp [results, Tryz.results162, go_sem, r0, r1_, r2_, r3_, r4, r5, r6, hl2]) rfl ⟨by rw [HF.out]; exact ⟨_, _, _, _, _, _, _, _, _, _, _, _, _, rfl, hne⟩, ?_⟩
        exact bset7 (HB6.out.setCell (p := ⟨w1.heap.size, 6, none⟩) (by show w.heap.size ≤ w1.heap.size; omega) _) (by omega) _ _ _ _ _ _ _
      | ok r3 =>
        rw [hr3] at hend
        obtain ⟨b3, d3, rfl, he3⟩ := hend
        have HF := hid (rsS_ok (by rw [HH.out]) HR1.out HR2.out hr3)
        rw [HH.out] at HF
        simp only [] at HF
        have HM3 : Hid (EAt w5 (w1.heap.size + 1 ≤ ·) b3 r3.length (acsD r3)) := he3.moves ⟨Nat.le_refl _, fun b _ h => ⟨by rw [HZ5.out] at h; show w1.heap.size + 1 ≤ b; omega, rfl⟩⟩
        have HMv : Hid (∀ v0 v1 v2 v3 v4 v5 v6, Moves w5 (w1.heap.size + 1 ≤ ·) (((set5 (w5.setCell ⟨w1.heap.size, 6, none⟩ (.slice b3 r3.length d3)) (w.heap.size + 1 + 1) v0 v1 v2 v3 v4).setCell ⟨w.heap.size + 1 + 1, 5, none⟩ v5).setCell ⟨w.heap.size + 1 + 1, 6, none⟩ v6) (w.heap.size ≤ ·)) := fun v0 v1 v2 v3 v4 v5 v6 =>
          (((((Moves.refl w5 (w1.heap.size + 1 ≤ ·)).set (p := ⟨w1.heap.size, 6, none⟩) (by intro b _ hb; show b ≠ w1.heap.size; have : w1.heap.size + 1 ≤ b := hb; omega) _).set5 (b := w.heap.size + 1 + 1) (by intro b _ hb; have : w1.heap.size + 1 ≤ b := hb; omega) v0 v1 v2 v3 v4).set (p := ⟨w.heap.size + 1 + 1, 5, none⟩) (by intro b _ hb; show b ≠ w.heap.size + 1 + 1; have : w1.heap.size + 1 ≤ b := hb; omega) v5).set (p := ⟨w.heap.size + 1 + 1, 6, none⟩) (by intro b _ hb; show b ≠ w.heap.size + 1 + 1; have : w1.heap.size + 1 ≤ b := hb; omega) v6).trans ⟨Nat.le_refl _, fun b _ h => ⟨by have : w1.heap.size + 1 ≤ b := h; show w.heap.size ≤ b; omega, rfl⟩⟩
        clear hr3 he3
        go_wp2_with fail
        refine bodyPost_ret (v := .tuple #[.agg #[.int .i64 ho, .int .i64 hn, .int .i64 hm, .int .i64 ha, .slice b1 r1.length d1, .slice b2 r2.length d2, .slice b3 r3.length d3], .int .i64 0]) (by simp [results, Tryz.results162, go_sem, r0, r1_, r2_, r3_, r4, r5, r6, hl2]) rfl ⟨by rw [HF.out]; exact ⟨b1, d1, b2, d2, b3, d3, rfl, HM1'.out.moves (HMv.out _ _ _ _ _ _ _), HM2'.out.moves (HMv.out _ _ _ _ _ _ _), HM3.out.moves (HMv.out _ _ _ _ _ _ _)⟩, ?_⟩
        exact bset7 (HB6.out.setCell (p := ⟨w1.heap.size, 6, none⟩) (by show w.heap.size ≤ w1.heap.size; omega) _) (by omega) _ _ _ _ _ _ _
theorem acts_any : ∀ (k : Nat) (l : List St), stMany k l = false → ActsOk l
  | 0, l, h => by simp [stMany] at h
  | k + 1, l, h => by
    simp only [stMany, Bool.or_eq_false_iff] at h
    have h1 := of_decide_eq_false h.1
    refine acts_step l (by omega) fun j hj => ?_
    have := h.2
    rw [List.any_eq_false] at this
    have hx := this l[j] (List.getElem_mem _)
    simp only [Bool.not_eq_true, Bool.or_eq_false_iff, Bool.and_eq_false_iff] at hx
    have none_ok : ActsOk [] := acts_step [] (by simp) (fun j hj => by simp at hj)
    have nil_of : ∀ b : List St, decide (0 < b.length) = false → ActsOk b := fun b h => by
      have : b = [] := List.eq_nil_of_length_eq_zero (by have := of_decide_eq_false h; omega)
      rw [this]; exact none_ok
    exact act_step _ (nodes_any 6 _ hx.1) (hx.2.1.elim (fun h => nil_of _ h.2) (acts_any k _)) (hx.2.2.elim (nil_of _) (acts_any k _))
end Go.Proofs.YtndkhgakfodldaaGreatDoor

namespace Go.Proofs.YtndkhgakfodldaaGreatDoor
namespace Fx

structure It where
  kind : Int
  n : Int
  at_ : Int
  name : ByteArray
structure Fc where
  name : ByteArray
  items : List It
def nameOk (s : ByteArray) : Bool := Lx.nameB s.data.toList
def numOkB (i : It) : Bool :=
  if i.kind = 1 then decide (0 ≤ i.n) && decide (i.n ≤ 1099511627775) && decide (i.at_ = 0)
  else if i.kind = 2 then decide (i.n = 0) && decide (0 ≤ i.at_) && decide (i.at_ ≤ 320)
  else if i.kind = 3 then decide (1 ≤ i.n) && decide (i.n ≤ 32) && decide (0 ≤ i.at_) && decide (i.at_ ≤ 320)
  else if i.kind = 4 then decide (0 ≤ i.n) && decide (i.n ≤ 3) && decide (0 ≤ i.at_) && decide (i.at_ ≤ 320)
  else false
def itemOk (i : It) : Bool := nameOk i.name && numOkB i
/- how many different ones -/
def uniqs : List (List UInt8) → List (List UInt8) := List.foldl (fun acc s => if s ∈ acc then acc else acc ++ [s]) []
def dupB (l : List (List UInt8)) : Bool := decide ((uniqs l).length < l.length)
theorem uniqs_snoc (l : List (List UInt8)) (s : List UInt8) : uniqs (l ++ [s]) = if s ∈ uniqs l then uniqs l else uniqs l ++ [s] := by
  unfold uniqs; rw [List.foldl_append]; rfl
theorem list_snoc_ind {α : Type} {p : List α → Prop} (h0 : p []) (h1 : ∀ l a, p l → p (l ++ [a])) : ∀ l, p l := by
  intro l
  have : ∀ n (l : List α), l.length = n → p l := by
    intro n
    induction n with
    | zero => intro l hl; rw [List.eq_nil_of_length_eq_zero hl]; exact h0
    | succ n ih =>
      intro l hl
      have hne : l ≠ [] := fun e => by rw [e] at hl; simp at hl
      rw [← List.dropLast_concat_getLast hne]
      exact h1 _ _ (ih _ (by rw [List.length_dropLast]; omega))
  exact this _ l rfl
theorem mem_uniqs (x : List UInt8) : ∀ l : List (List UInt8), x ∈ uniqs l ↔ x ∈ l := by
  apply list_snoc_ind
  · exact Iff.rfl
  · intro l a ih
    rw [uniqs_snoc]
    by_cases h : a ∈ uniqs l
    · rw [if_pos h]
      simp only [List.mem_append, List.mem_singleton]
      constructor
      · intro hx; exact Or.inl (ih.1 hx)
      · rintro (hx | rfl)
        · exact ih.2 hx
        · exact h
    · rw [if_neg h]
      simp only [List.mem_append, List.mem_singleton, ih]
theorem uniqs_len : ∀ l : List (List UInt8), (uniqs l).length ≤ l.length := by
  apply list_snoc_ind
  · exact Nat.le_refl _
  · intro l a ih
    rw [uniqs_snoc]
    split
    · rw [List.length_append]; simp; omega
    · rw [List.length_append, List.length_append]; simp; omega
theorem dup_snoc (l : List (List UInt8)) (s : List UInt8) : dupB (l ++ [s]) = (dupB l || decide (s ∈ l)) := by
  have h1 := uniqs_len l
  have h2 : (l ++ [s]).length = l.length + 1 := by simp
  unfold dupB
  rw [uniqs_snoc, h2]
  by_cases h : s ∈ uniqs l
  · rw [if_pos h, decide_eq_true ((mem_uniqs s l).1 h), Bool.or_true]
    exact decide_eq_true (by omega)
  · rw [if_neg h, decide_eq_false (fun e => h ((mem_uniqs s l).2 e)), Bool.or_false, show (uniqs l ++ [s]).length = (uniqs l).length + 1 from by simp]
    exact decide_eq_decide.2 (by omega)
def namesOf (l : List It) : List (List UInt8) := l.map (·.name.data.toList)
def chkF (f : Fc) : Int :=
  if 16 < f.items.length then 2 else if nameOk f.name && !dupB (namesOf f.items) && f.items.all itemOk then 0 else 1
theorem chk_many {f : Fc} (h : 16 < f.items.length) : chkF f = 2 := if_pos h
theorem chk_name {f : Fc} (h : ¬ 16 < f.items.length) (h1 : nameOk f.name = false) : chkF f = 1 := by unfold chkF; rw [if_neg h, h1]; rfl
theorem chk_dup {f : Fc} (h : ¬ 16 < f.items.length) (h1 : dupB (namesOf f.items) = true) : chkF f = 1 := by unfold chkF; rw [if_neg h, h1]; simp
theorem chk_item {f : Fc} (h : ¬ 16 < f.items.length) (h1 : f.items.all itemOk = false) : chkF f = 1 := by unfold chkF; rw [if_neg h, h1]; simp
theorem chk_ok {f : Fc} (h : ¬ 16 < f.items.length) (h0 : nameOk f.name = true) (h1 : dupB (namesOf f.items) = false) (h2 : f.items.all itemOk = true) : chkF f = 0 := by unfold chkF; rw [if_neg h, h0, h1, h2]; rfl

end Fx
end Go.Proofs.YtndkhgakfodldaaGreatDoor

namespace Go.Proofs.YtndkhgakfodldaaGreatDoor
namespace Fx
open Go.RowKit Go.Shelf
set_option maxRecDepth 100000

theorem hid {p : Prop} (h : p) : Hid p := h
set_option maxHeartbeats 400000 in
theorem isToken_word (s : ByteArray) (w : World) (hs : s.size ≤ maxLen) :
    Calls Tryz.prog 160 #[.agg #[.int .i64 1, .int .i64 0, .string s]] w fun e w' => e = .returned (.bool (nameOk s)) ∧ Below w.heap.size w w' := by
  go_enter Tryz.func160, Tryz.ntmps160
  go_wp2_with (go_at_call 202; refine (isName_any s _ hs).mono ?_; rintro e w' ⟨rfl, rfl⟩)
  go_ret
  exact ⟨rfl, (Below.refl _ _).alloc (Nat.le_refl _) _⟩

set_option maxHeartbeats 400000 in
theorem Check_word_yes (s : ByteArray) (b : Nat) (w : World) (hs : s.size ≤ maxLen) (hb : b < w.heap.size) (h0 : w.cell? ⟨b, 0, none⟩ = some (.int .i64 1)) (h1 : w.cell? ⟨b, 1, none⟩ = some (.int .i64 0)) (h2 : w.cell? ⟨b, 2, none⟩ = some (.string s)) (hn : nameOk s = true) :
    Calls Tryz.prog 116 #[.slice (some ⟨b, 0, none⟩) 1 1] w fun e w' => e = .returned (.int .i64 0) ∧ Below w.heap.size w w' := by
  have H0 := hid h0
  have H1 := hid h1
  have H2 := hid h2
  have HC : Hid (∀ W, Calls Tryz.prog 160 #[.agg #[.int .i64 1, .int .i64 0, .string s]] W fun e w' => e = .returned (.bool true) ∧ Below W.heap.size W w') := fun W => by
    have := isToken_word s W hs
    rw [hn] at this
    exact this
  clear h0 h1 h2 hn
  go_enter Tryz.func116, Tryz.ntmps116
  go_wp2_with fail
  go_loopw [9, 4] (fun i _ wr => ∃ k : Nat, k ≤ 1 ∧ i = .int .i64 k ∧ Below w.heap.size w wr) (fun i _ _ => 1 - (intOf i).toNat)
  case atStart => exact ⟨0, Nat.zero_le _, rfl, Below.refl _ _⟩
  case round =>
    obtain ⟨k, hk, rfl, hbl⟩ := hrel
    by_cases hlt : k < 1
    · obtain rfl : k = 0 := by omega
      have h0 := (hbl.cell (p := ⟨b, 0, none⟩) hb).trans H0.out
      have h1 := (hbl.cell (p := ⟨b, 1, none⟩) hb).trans H1.out
      have h2 := (hbl.cell (p := ⟨b, 2, none⟩) hb).trans H2.out
      have hb' : b < wr.heap.size := Nat.lt_of_lt_of_le hb hbl.size
      go_wp2_with fail
      go_roundw
      case rel => exact ⟨1, by omega, rfl, hbl.alloc hbl.size _⟩
      case measure => simp [intOf]
    · go_wp2_with fail
      go_loopw [24, 6] (fun i _ wr => ∃ k : Nat, k ≤ 1 ∧ i = .int .i64 k ∧ Hid (k ≤ 2) ∧ Below w.heap.size w wr) (fun i _ _ => 1 - (intOf i).toNat)
      case atStart => exact ⟨0, Nat.zero_le _, rfl, (by decide : 0 ≤ 2), hbl⟩
      case round =>
        obtain ⟨k, hk, rfl, -, hb1⟩ := hrel
        by_cases hlt : k < 1
        · obtain rfl : k = 0 := by omega
          have h0 := (hb1.cell (p := ⟨b, 0, none⟩) hb).trans H0.out
          have h1 := (hb1.cell (p := ⟨b, 1, none⟩) hb).trans H1.out
          have h2 := (hb1.cell (p := ⟨b, 2, none⟩) hb).trans H2.out
          have hb' : b < wr.heap.size := Nat.lt_of_lt_of_le hb hb1.size
          go_wp2_with (go_at_call 160; refine (HC.out _).mono ?_; rintro e w' ⟨rfl, hb2⟩)
          go_roundw
          case rel => exact ⟨1, by omega, rfl, (by decide : 1 ≤ 2), (hb1.alloc hb1.size _).trans (hb2.mono (by have := hb1.size; simp; omega))⟩
          case measure => simp [intOf]
        · obtain rfl : k = 1 := by omega
          go_wp2_with fail
          go_ret
          exact ⟨rfl, hb1⟩

set_option maxHeartbeats 400000 in
theorem Check_word_no (s : ByteArray) (b : Nat) (w : World) (hs : s.size ≤ maxLen) (hb : b < w.heap.size) (h0 : w.cell? ⟨b, 0, none⟩ = some (.int .i64 1)) (h1 : w.cell? ⟨b, 1, none⟩ = some (.int .i64 0)) (h2 : w.cell? ⟨b, 2, none⟩ = some (.string s)) (hn : nameOk s = false) :
    Calls Tryz.prog 116 #[.slice (some ⟨b, 0, none⟩) 1 1] w fun e w' => e = .returned (.int .i64 1) ∧ Below w.heap.size w w' := by
  have H0 := hid h0
  have H1 := hid h1
  have H2 := hid h2
  have HC : Hid (∀ W, Calls Tryz.prog 160 #[.agg #[.int .i64 1, .int .i64 0, .string s]] W fun e w' => e = .returned (.bool false) ∧ Below W.heap.size W w') := fun W => by
    have := isToken_word s W hs
    rw [hn] at this
    exact this
  clear h0 h1 h2 hn
  go_enter Tryz.func116, Tryz.ntmps116
  go_wp2_with fail
  go_loopw [9, 4] (fun i _ wr => ∃ k : Nat, k ≤ 1 ∧ i = .int .i64 k ∧ Below w.heap.size w wr) (fun i _ _ => 1 - (intOf i).toNat)
  case atStart => exact ⟨0, Nat.zero_le _, rfl, Below.refl _ _⟩
  case round =>
    obtain ⟨k, hk, rfl, hbl⟩ := hrel
    by_cases hlt : k < 1
    · obtain rfl : k = 0 := by omega
      have h0 := (hbl.cell (p := ⟨b, 0, none⟩) hb).trans H0.out
      have h1 := (hbl.cell (p := ⟨b, 1, none⟩) hb).trans H1.out
      have h2 := (hbl.cell (p := ⟨b, 2, none⟩) hb).trans H2.out
      have hb' : b < wr.heap.size := Nat.lt_of_lt_of_le hb hbl.size
      go_wp2_with fail
      go_roundw
      case rel => exact ⟨1, by omega, rfl, hbl.alloc hbl.size _⟩
      case measure => simp [intOf]
    · go_wp2_with fail
      go_loopw [24, 6] (fun i _ wr => ∃ k : Nat, k ≤ 1 ∧ i = .int .i64 k ∧ k = 0 ∧ Below w.heap.size w wr) (fun i _ _ => 1 - (intOf i).toNat)
      case atStart => exact ⟨0, Nat.zero_le _, rfl, rfl, hbl⟩
      case round =>
        obtain ⟨k, hk, rfl, hk0, hb1⟩ := hrel
        subst hk0
        have h0 := (hb1.cell (p := ⟨b, 0, none⟩) hb).trans H0.out
        have h1 := (hb1.cell (p := ⟨b, 1, none⟩) hb).trans H1.out
        have h2 := (hb1.cell (p := ⟨b, 2, none⟩) hb).trans H2.out
        have hb' : b < wr.heap.size := Nat.lt_of_lt_of_le hb hb1.size
        go_wp2_with (go_at_call 160; refine (HC.out _).mono ?_; rintro e w' ⟨rfl, hb2⟩)
        go_ret
        exact ⟨rfl, (hb1.alloc hb1.size _).trans (hb2.mono (by have := hb1.size; simp; omega))⟩

theorem scopeName_any (s : ByteArray) (w : World) (hs : s.size ≤ maxLen) :
    Calls Tryz.prog 58 #[.string s] w fun e w' => e = .returned (.bool (nameOk s)) ∧ Below w.heap.size w w' := by
  cases hn : nameOk s with
  | true =>
    have HC := hid (Check_word_yes s w.heap.size (w.alloc (.cells #[.int .i64 1, .int .i64 0, .string s] 184)) hs (by simp) (by simp) (by simp) (by simp) hn)
    clear hn
    go_enter Tryz.func58, Tryz.ntmps58
    go_wp2_with fail
    refine HC.out.mono ?_
    rintro e w' ⟨rfl, hb⟩
    go_wp2_with fail
    go_ret
    exact ⟨rfl, ((Below.refl _ _).alloc (Nat.le_refl _) _).trans (hb.mono (by simp))⟩
  | false =>
    have HC := hid (Check_word_no s w.heap.size (w.alloc (.cells #[.int .i64 1, .int .i64 0, .string s] 184)) hs (by simp) (by simp) (by simp) (by simp) hn)
    clear hn
    go_enter Tryz.func58, Tryz.ntmps58
    go_wp2_with fail
    refine HC.out.mono ?_
    rintro e w' ⟨rfl, hb⟩
    go_wp2_with fail
    go_ret
    exact ⟨rfl, ((Below.refl _ _).alloc (Nat.le_refl _) _).trans (hb.mono (by simp))⟩

end Fx
end Go.Proofs.YtndkhgakfodldaaGreatDoor
