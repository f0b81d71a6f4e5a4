/-
  The first rule that applies at a place: two of which the first is known.
-/
import Derived.Test.YtpahhhhfhnpmjaaQh
import Derived.Deep.DrawnRows
namespace Go.Proofs.Ytpahhhhfhnpmjaa
open Go.RowKit Go.Shelf
set_option maxRecDepth 100000
attribute [local go_sem ↓] Go.wp_at_zero Go.wp_at_succ

set_option maxHeartbeats 3200000 in
theorem look_not (wa : Option Addr) (g m n wc gc mc : Nat) (was c : List Mc.Ins) (mk : List Bool) (i : Nat) (w : World) (h : Hole w wa g m was c mk) (hn : n = was.length) (hi : i < n) (hgc : n ≤ gc) (hF0 : followB c mk i [11] = false) (hF1 : followB c mk i [12] = false) (hF2 : followB c mk i [1, 1, 10] = false) (hF3 : followB c mk i [1, 12] = false) (hF4 : followB c mk i [1, 9] = true) :
    Calls Try.prog 17 #[.agg #[.slice wa n wc, .slice (some ⟨g, 0, none⟩) n gc, .slice (some ⟨m, 0, none⟩) n mc], .int .i64 i] w fun e w' => e = .returned (.tuple #[]) ∧ CRow w' g (Mc.lookAt was c mk i) ∧ w.grownBy w' (some g) := by
  have hlc : c.length = n := by rw [hn]; exact h.lc
  have hlen : n ≤ 2048 := by rw [hn]; exact h.len
  have HL : Hid (Mc.lookAt was c mk i = Mc.lay2' c i Mc.nopI (Mc.pshI (Mc.truth ((c.getD i Mc.dI).a == 0)))) := by
    show _ = _
    rw [look_two (by rw [hlc]; exact hi) hF0 hF1 (by rw [hF2]; rfl)]
    simp only [hF3, hF4, if_true, Bool.false_eq_true, if_false]
    rfl
  have HF0 : Hid (∀ W ob, Lk wa g m n wc gc mc was c mk i w W → NumsAt W (some ⟨ob, 0, none⟩) [11] → FolSays wa g m n wc gc mc i 1 false W ob) := fun W ob hW ho => fol_says hW hn hi [11] 1 rfl (by omega) (by omega) false hF0 ob ho
  have HF1 : Hid (∀ W ob, Lk wa g m n wc gc mc was c mk i w W → NumsAt W (some ⟨ob, 0, none⟩) [12] → FolSays wa g m n wc gc mc i 1 false W ob) := fun W ob hW ho => fol_says hW hn hi [12] 1 rfl (by omega) (by omega) false hF1 ob ho
  have HF2 : Hid (∀ W ob, Lk wa g m n wc gc mc was c mk i w W → NumsAt W (some ⟨ob, 0, none⟩) [1, 1, 10] → FolSays wa g m n wc gc mc i 3 false W ob) := fun W ob hW ho => fol_says hW hn hi [1, 1, 10] 3 rfl (by omega) (by omega) false hF2 ob ho
  have HF3 : Hid (∀ W ob, Lk wa g m n wc gc mc was c mk i w W → NumsAt W (some ⟨ob, 0, none⟩) [1, 12] → FolSays wa g m n wc gc mc i 2 false W ob) := fun W ob hW ho => fol_says hW hn hi [1, 12] 2 rfl (by omega) (by omega) false hF3 ob ho
  have HF4 : Hid (∀ W ob, Lk wa g m n wc gc mc was c mk i w W → NumsAt W (some ⟨ob, 0, none⟩) [1, 9] → FolSays wa g m n wc gc mc i 2 true W ob) := fun W ob hW ho => fol_says hW hn hi [1, 9] 2 rfl (by omega) (by omega) true hF4 ob ho
  have hgw := h.code.lt
  have c1 := h.code.a i (by rw [hlc]; exact hi)
  have HK := hid (Lk.new (n := n) (wc := wc) (gc := gc) (mc := mc) (i := i) h)
  have hi1 : i + 1 < n := by
    rw [follow2] at hF4
    simp only [Bool.and_eq_true] at hF4
    have := (Mc.bare_of hF4.2).1
    omega
  have HLay : Hid (∀ W lb, Lk wa g m n wc gc mc was c mk i w W → lb < W.heap.size → (∀ j v, (cellsI (Mc.nopI) ++ cellsI (Mc.pshI (Mc.truth ((c.getD i Mc.dI).a == 0))))[j]? = some v → W.cell? ⟨lb, j, none⟩ = some v) → LayOk wa g m n wc gc mc i 2 (Mc.lay2' c i Mc.nopI (Mc.pshI (Mc.truth ((c.getD i Mc.dI).a == 0)))) W lb) := fun W lb hW hlb hs => lay2_any wa g m n wc gc mc was c mk i lb 2 (Mc.nopI) (Mc.pshI (Mc.truth ((c.getD i Mc.dI).a == 0))) W hW.hole hn (by omega) hgc hs hlb
  have HNop : Hid (∀ W, Calls Try.prog 36 #[] W fun e w' => e = .returned (.agg #[.int .i64 21, .int .i64 0, .int .i64 0]) ∧ Below W.heap.size W w') := nop_any
  have HPsh : Hid (∀ v W, Calls Try.prog 37 #[.int .i64 v] W fun e w' => e = .returned (.agg #[.int .i64 1, .int .i64 v, .int .i64 0]) ∧ Below W.heap.size W w') := fun v W => push_any' v W
  have HTr : Hid (∀ b W, Calls Try.prog 39 #[.bool b] W fun e w' => e = .returned (.int .i64 (Mc.truth b)) ∧ w' = W) := fun b W => truth_any b W
  clear h hn hlc hF0 hF1 hF2 hF3 hF4
  generalize (c.getD i Mc.dI).a = an at *
  go_enter Try.func17, Try.ntmps17
  go_wp2_with fail
  refine (HF0.out _ _ (HK.out.alloc _) (nums1 _ 11 3 _ (by first | rfl | simp))).mono ?_
  rintro e w1 ⟨rfl, hb1⟩
  have HK1 := hid ((HK.out.alloc _).next hb1)
  clear hb1
  have y0 := HK1.out.x0
  have y1 := HK1.out.x1
  have y2 := HK1.out.x2
  go_wp2_with fail
  refine (HF1.out _ _ (HK1.out.alloc _) (nums1 _ 12 3 _ (by first | rfl | simp))).mono ?_
  rintro e w2 ⟨rfl, hb2⟩
  have HK2 := hid ((HK1.out.alloc _).next hb2)
  clear hb2
  clear y0 y1 y2
  have y0 := HK2.out.x0
  have y1 := HK2.out.x1
  have y2 := HK2.out.x2
  go_wp2_with fail
  refine (HF2.out _ _ (HK2.out.alloc _) (nums3 _ 1 1 10 3 _ (by first | rfl | simp))).mono ?_
  rintro e w3 ⟨rfl, hb3⟩
  have HK3 := hid ((HK2.out.alloc _).next hb3)
  clear hb3
  clear y0 y1 y2
  have y0 := HK3.out.x0
  have y1 := HK3.out.x1
  have y2 := HK3.out.x2
  go_wp2_with fail
  refine (HF3.out _ _ (HK3.out.alloc _) (nums2 _ 1 12 3 _ (by first | rfl | simp))).mono ?_
  rintro e w4 ⟨rfl, hb4⟩
  have HK4 := hid ((HK3.out.alloc _).next hb4)
  clear hb4
  clear y0 y1 y2
  have y0 := HK4.out.x0
  have y1 := HK4.out.x1
  have y2 := HK4.out.x2
  go_wp2_with fail
  refine (HF4.out _ _ (HK4.out.alloc _) (nums2 _ 1 9 3 _ (by first | rfl | simp))).mono ?_
  rintro e w5 ⟨rfl, hb5⟩
  have HK5 := hid ((HK4.out.alloc _).next hb5)
  clear hb5
  clear y0 y1 y2
  have y0 := HK5.out.x0
  have y1 := HK5.out.x1
  have y2 := HK5.out.x2
  go_wp2_with fail
  go_region_held3 (fun W => W.cell? ⟨w.heap.size, 0, none⟩ = some (.slice wa n wc) ∧ W.cell? ⟨w.heap.size, 1, none⟩ = some (.slice (some ⟨g, 0, none⟩) n gc) ∧ W.cell? ⟨w.heap.size, 2, none⟩ = some (.slice (some ⟨m, 0, none⟩) n mc)) (first | (go_keep; done) | exact FF.out)
    (first
      | (go_at_call 36; refine (HNop.out _).mono ?_; rintro e w' ⟨rfl, hb⟩; have HQ : Lk wa g m n wc gc mc was c mk i w w' := (by repeat (first | exact HK5.out | assumption | refine Lk.alloc ?_ _ | refine Lk.drew ?_ | refine Lk.next ?_ ‹Below _ _ _›)); have FF : Hid (w'.cell? ⟨w.heap.size, 0, none⟩ = some (.slice wa n wc) ∧ w'.cell? ⟨w.heap.size, 1, none⟩ = some (.slice (some ⟨g, 0, none⟩) n gc) ∧ w'.cell? ⟨w.heap.size, 2, none⟩ = some (.slice (some ⟨m, 0, none⟩) n mc)) := ⟨HQ.x0, HQ.x1, HQ.x2⟩)
      | (go_at_call 37; refine (HPsh.out _ _).mono ?_; rintro e w' ⟨rfl, hb⟩; have HQ : Lk wa g m n wc gc mc was c mk i w w' := (by repeat (first | exact HK5.out | assumption | refine Lk.alloc ?_ _ | refine Lk.drew ?_ | refine Lk.next ?_ ‹Below _ _ _›)); have FF : Hid (w'.cell? ⟨w.heap.size, 0, none⟩ = some (.slice wa n wc) ∧ w'.cell? ⟨w.heap.size, 1, none⟩ = some (.slice (some ⟨g, 0, none⟩) n gc) ∧ w'.cell? ⟨w.heap.size, 2, none⟩ = some (.slice (some ⟨m, 0, none⟩) n mc)) := ⟨HQ.x0, HQ.x1, HQ.x2⟩)
      | (go_at_call 39; refine (HTr.out _ _).mono ?_; rintro e w' ⟨rfl, rfl⟩)
      | (go_at_call 35; refine (HLay.out _ _ (by repeat (first | exact HK5.out | assumption | refine Lk.alloc ?_ _ | refine Lk.drew ?_ | refine Lk.next ?_ ‹Below _ _ _›)) (by simp) (src2 _ (Mc.nopI) (Mc.pshI (Mc.truth (an == 0))) 51 _ (by first | rfl | simp))).mono ?_; rintro e wf ⟨rfl, hc, hg⟩; have HQ2 := Lk.ends (w := w) (wa := wa) (m := m) (n := n) (wc := wc) (gc := gc) (mc := mc) (was := was) (c := c) (mk := mk) (i := i) (by repeat (first | exact HK5.out | assumption | refine Lk.alloc ?_ _ | refine Lk.drew ?_ | refine Lk.next ?_ ‹Below _ _ _›)) hg; have HG := hid HQ2; have FF : Hid (wf.cell? ⟨w.heap.size, 0, none⟩ = some (.slice wa n wc) ∧ wf.cell? ⟨w.heap.size, 1, none⟩ = some (.slice (some ⟨g, 0, none⟩) n gc) ∧ wf.cell? ⟨w.heap.size, 2, none⟩ = some (.slice (some ⟨m, 0, none⟩) n mc)) := (Lk.after (was := was) (c := c) (mk := mk) (i := i) (by repeat (first | exact HK5.out | assumption | refine Lk.alloc ?_ _ | refine Lk.drew ?_ | refine Lk.next ?_ ‹Below _ _ _›)) hg hgw); have HC := hid hc; clear hc HQ2))
  all_goals
    go_wp2_with fail
    go_returns
    exact ⟨rfl, by rw [HL.out]; exact HC.out, HG.out⟩

set_option maxHeartbeats 3200000 in
theorem look_truth (wa : Option Addr) (g m n wc gc mc : Nat) (was c : List Mc.Ins) (mk : List Bool) (i : Nat) (w : World) (h : Hole w wa g m was c mk) (hn : n = was.length) (hi : i < n) (hgc : n ≤ gc) (hF0 : followB c mk i [11] = false) (hF1 : followB c mk i [12] = false) (hF2 : followB c mk i [1, 1, 10] = false) (hF3 : followB c mk i [1, 12] = false) (hF4 : followB c mk i [1, 9] = false) (hF5 : followB c mk i [1, 22] = true) :
    Calls Try.prog 17 #[.agg #[.slice wa n wc, .slice (some ⟨g, 0, none⟩) n gc, .slice (some ⟨m, 0, none⟩) n mc], .int .i64 i] w fun e w' => e = .returned (.tuple #[]) ∧ CRow w' g (Mc.lookAt was c mk i) ∧ w.grownBy w' (some g) := by
  have hlc : c.length = n := by rw [hn]; exact h.lc
  have hlen : n ≤ 2048 := by rw [hn]; exact h.len
  have HL : Hid (Mc.lookAt was c mk i = Mc.lay2' c i Mc.nopI (Mc.pshI (Mc.truth ((c.getD i Mc.dI).a != 0)))) := by
    show _ = _
    rw [look_two (by rw [hlc]; exact hi) hF0 hF1 (by rw [hF2]; rfl)]
    simp only [hF3, hF4, hF5, if_true, Bool.false_eq_true, if_false]
    rfl
  have HF0 : Hid (∀ W ob, Lk wa g m n wc gc mc was c mk i w W → NumsAt W (some ⟨ob, 0, none⟩) [11] → FolSays wa g m n wc gc mc i 1 false W ob) := fun W ob hW ho => fol_says hW hn hi [11] 1 rfl (by omega) (by omega) false hF0 ob ho
  have HF1 : Hid (∀ W ob, Lk wa g m n wc gc mc was c mk i w W → NumsAt W (some ⟨ob, 0, none⟩) [12] → FolSays wa g m n wc gc mc i 1 false W ob) := fun W ob hW ho => fol_says hW hn hi [12] 1 rfl (by omega) (by omega) false hF1 ob ho
  have HF2 : Hid (∀ W ob, Lk wa g m n wc gc mc was c mk i w W → NumsAt W (some ⟨ob, 0, none⟩) [1, 1, 10] → FolSays wa g m n wc gc mc i 3 false W ob) := fun W ob hW ho => fol_says hW hn hi [1, 1, 10] 3 rfl (by omega) (by omega) false hF2 ob ho
  have HF3 : Hid (∀ W ob, Lk wa g m n wc gc mc was c mk i w W → NumsAt W (some ⟨ob, 0, none⟩) [1, 12] → FolSays wa g m n wc gc mc i 2 false W ob) := fun W ob hW ho => fol_says hW hn hi [1, 12] 2 rfl (by omega) (by omega) false hF3 ob ho
  have HF4 : Hid (∀ W ob, Lk wa g m n wc gc mc was c mk i w W → NumsAt W (some ⟨ob, 0, none⟩) [1, 9] → FolSays wa g m n wc gc mc i 2 false W ob) := fun W ob hW ho => fol_says hW hn hi [1, 9] 2 rfl (by omega) (by omega) false hF4 ob ho
  have HF5 : Hid (∀ W ob, Lk wa g m n wc gc mc was c mk i w W → NumsAt W (some ⟨ob, 0, none⟩) [1, 22] → FolSays wa g m n wc gc mc i 2 true W ob) := fun W ob hW ho => fol_says hW hn hi [1, 22] 2 rfl (by omega) (by omega) true hF5 ob ho
  have hgw := h.code.lt
  have c1 := h.code.a i (by rw [hlc]; exact hi)
  have HK := hid (Lk.new (n := n) (wc := wc) (gc := gc) (mc := mc) (i := i) h)
  have hi1 : i + 1 < n := by
    rw [follow2] at hF5
    simp only [Bool.and_eq_true] at hF5
    have := (Mc.bare_of hF5.2).1
    omega
  have HLay : Hid (∀ W lb, Lk wa g m n wc gc mc was c mk i w W → lb < W.heap.size → (∀ j v, (cellsI (Mc.nopI) ++ cellsI (Mc.pshI (Mc.truth ((c.getD i Mc.dI).a != 0))))[j]? = some v → W.cell? ⟨lb, j, none⟩ = some v) → LayOk wa g m n wc gc mc i 2 (Mc.lay2' c i Mc.nopI (Mc.pshI (Mc.truth ((c.getD i Mc.dI).a != 0)))) W lb) := fun W lb hW hlb hs => lay2_any wa g m n wc gc mc was c mk i lb 2 (Mc.nopI) (Mc.pshI (Mc.truth ((c.getD i Mc.dI).a != 0))) W hW.hole hn (by omega) hgc hs hlb
  have HNop : Hid (∀ W, Calls Try.prog 36 #[] W fun e w' => e = .returned (.agg #[.int .i64 21, .int .i64 0, .int .i64 0]) ∧ Below W.heap.size W w') := nop_any
  have HPsh : Hid (∀ v W, Calls Try.prog 37 #[.int .i64 v] W fun e w' => e = .returned (.agg #[.int .i64 1, .int .i64 v, .int .i64 0]) ∧ Below W.heap.size W w') := fun v W => push_any' v W
  have HTr : Hid (∀ b W, Calls Try.prog 39 #[.bool b] W fun e w' => e = .returned (.int .i64 (Mc.truth b)) ∧ w' = W) := fun b W => truth_any b W
  clear h hn hlc hF0 hF1 hF2 hF3 hF4 hF5
  generalize (c.getD i Mc.dI).a = an at *
  go_enter Try.func17, Try.ntmps17
  go_wp2_with fail
  refine (HF0.out _ _ (HK.out.alloc _) (nums1 _ 11 3 _ (by first | rfl | simp))).mono ?_
  rintro e w1 ⟨rfl, hb1⟩
  have HK1 := hid ((HK.out.alloc _).next hb1)
  clear hb1
  have y0 := HK1.out.x0
  have y1 := HK1.out.x1
  have y2 := HK1.out.x2
  go_wp2_with fail
  refine (HF1.out _ _ (HK1.out.alloc _) (nums1 _ 12 3 _ (by first | rfl | simp))).mono ?_
  rintro e w2 ⟨rfl, hb2⟩
  have HK2 := hid ((HK1.out.alloc _).next hb2)
  clear hb2
  clear y0 y1 y2
  have y0 := HK2.out.x0
  have y1 := HK2.out.x1
  have y2 := HK2.out.x2
  go_wp2_with fail
  refine (HF2.out _ _ (HK2.out.alloc _) (nums3 _ 1 1 10 3 _ (by first | rfl | simp))).mono ?_
  rintro e w3 ⟨rfl, hb3⟩
  have HK3 := hid ((HK2.out.alloc _).next hb3)
  clear hb3
  clear y0 y1 y2
  have y0 := HK3.out.x0
  have y1 := HK3.out.x1
  have y2 := HK3.out.x2
  go_wp2_with fail
  refine (HF3.out _ _ (HK3.out.alloc _) (nums2 _ 1 12 3 _ (by first | rfl | simp))).mono ?_
  rintro e w4 ⟨rfl, hb4⟩
  have HK4 := hid ((HK3.out.alloc _).next hb4)
  clear hb4
  clear y0 y1 y2
  have y0 := HK4.out.x0
  have y1 := HK4.out.x1
  have y2 := HK4.out.x2
  go_wp2_with fail
  refine (HF4.out _ _ (HK4.out.alloc _) (nums2 _ 1 9 3 _ (by first | rfl | simp))).mono ?_
  rintro e w5 ⟨rfl, hb5⟩
  have HK5 := hid ((HK4.out.alloc _).next hb5)
  clear hb5
  clear y0 y1 y2
  have y0 := HK5.out.x0
  have y1 := HK5.out.x1
  have y2 := HK5.out.x2
  go_wp2_with fail
  refine (HF5.out _ _ (HK5.out.alloc _) (nums2 _ 1 22 3 _ (by first | rfl | simp))).mono ?_
  rintro e w6 ⟨rfl, hb6⟩
  have HK6 := hid ((HK5.out.alloc _).next hb6)
  clear hb6
  clear y0 y1 y2
  have y0 := HK6.out.x0
  have y1 := HK6.out.x1
  have y2 := HK6.out.x2
  go_wp2_with fail
  go_region_held3 (fun W => W.cell? ⟨w.heap.size, 0, none⟩ = some (.slice wa n wc) ∧ W.cell? ⟨w.heap.size, 1, none⟩ = some (.slice (some ⟨g, 0, none⟩) n gc) ∧ W.cell? ⟨w.heap.size, 2, none⟩ = some (.slice (some ⟨m, 0, none⟩) n mc)) (first | (go_keep; done) | exact FF.out)
    (first
      | (go_at_call 36; refine (HNop.out _).mono ?_; rintro e w' ⟨rfl, hb⟩; have HQ : Lk wa g m n wc gc mc was c mk i w w' := (by repeat (first | exact HK6.out | assumption | refine Lk.alloc ?_ _ | refine Lk.drew ?_ | refine Lk.next ?_ ‹Below _ _ _›)); have FF : Hid (w'.cell? ⟨w.heap.size, 0, none⟩ = some (.slice wa n wc) ∧ w'.cell? ⟨w.heap.size, 1, none⟩ = some (.slice (some ⟨g, 0, none⟩) n gc) ∧ w'.cell? ⟨w.heap.size, 2, none⟩ = some (.slice (some ⟨m, 0, none⟩) n mc)) := ⟨HQ.x0, HQ.x1, HQ.x2⟩)
      | (go_at_call 37; refine (HPsh.out _ _).mono ?_; rintro e w' ⟨rfl, hb⟩; have HQ : Lk wa g m n wc gc mc was c mk i w w' := (by repeat (first | exact HK6.out | assumption | refine Lk.alloc ?_ _ | refine Lk.drew ?_ | refine Lk.next ?_ ‹Below _ _ _›)); have FF : Hid (w'.cell? ⟨w.heap.size, 0, none⟩ = some (.slice wa n wc) ∧ w'.cell? ⟨w.heap.size, 1, none⟩ = some (.slice (some ⟨g, 0, none⟩) n gc) ∧ w'.cell? ⟨w.heap.size, 2, none⟩ = some (.slice (some ⟨m, 0, none⟩) n mc)) := ⟨HQ.x0, HQ.x1, HQ.x2⟩)
      | (go_at_call 39; refine (HTr.out _ _).mono ?_; rintro e w' ⟨rfl, rfl⟩)
      | (go_at_call 35; refine (HLay.out _ _ (by repeat (first | exact HK6.out | assumption | refine Lk.alloc ?_ _ | refine Lk.drew ?_ | refine Lk.next ?_ ‹Below _ _ _›)) (by simp) (src2 _ (Mc.nopI) (Mc.pshI (Mc.truth (an != 0))) 51 _ (by first | rfl | simp))).mono ?_; rintro e wf ⟨rfl, hc, hg⟩; have HQ2 := Lk.ends (w := w) (wa := wa) (m := m) (n := n) (wc := wc) (gc := gc) (mc := mc) (was := was) (c := c) (mk := mk) (i := i) (by repeat (first | exact HK6.out | assumption | refine Lk.alloc ?_ _ | refine Lk.drew ?_ | refine Lk.next ?_ ‹Below _ _ _›)) hg; have HG := hid HQ2; have FF : Hid (wf.cell? ⟨w.heap.size, 0, none⟩ = some (.slice wa n wc) ∧ wf.cell? ⟨w.heap.size, 1, none⟩ = some (.slice (some ⟨g, 0, none⟩) n gc) ∧ wf.cell? ⟨w.heap.size, 2, none⟩ = some (.slice (some ⟨m, 0, none⟩) n mc)) := (Lk.after (was := was) (c := c) (mk := mk) (i := i) (by repeat (first | exact HK6.out | assumption | refine Lk.alloc ?_ _ | refine Lk.drew ?_ | refine Lk.next ?_ ‹Below _ _ _›)) hg hgw); have HC := hid hc; clear hc HQ2))
  all_goals
    go_wp2_with fail
    go_returns
    exact ⟨rfl, by rw [HL.out]; exact HC.out, HG.out⟩

set_option maxHeartbeats 3200000 in
theorem look_drop (wa : Option Addr) (g m n wc gc mc : Nat) (was c : List Mc.Ins) (mk : List Bool) (i : Nat) (w : World) (h : Hole w wa g m was c mk) (hn : n = was.length) (hi : i < n) (hgc : n ≤ gc) (hF0 : followB c mk i [11] = false) (hF1 : followB c mk i [12] = false) (hF2 : followB c mk i [1, 1, 10] = false) (hF3 : followB c mk i [1, 12] = false) (hF4 : followB c mk i [1, 9] = false) (hF5 : followB c mk i [1, 22] = false) (hF6 : followB c mk i [1, 17] = true) :
    Calls Try.prog 17 #[.agg #[.slice wa n wc, .slice (some ⟨g, 0, none⟩) n gc, .slice (some ⟨m, 0, none⟩) n mc], .int .i64 i] w fun e w' => e = .returned (.tuple #[]) ∧ CRow w' g (Mc.lookAt was c mk i) ∧ w.grownBy w' (some g) := by
  have hlc : c.length = n := by rw [hn]; exact h.lc
  have hlen : n ≤ 2048 := by rw [hn]; exact h.len
  have HL : Hid (Mc.lookAt was c mk i = Mc.lay2' c i Mc.nopI (Mc.nopI)) := by
    show _ = _
    rw [look_two (by rw [hlc]; exact hi) hF0 hF1 (by rw [hF2]; rfl)]
    simp only [hF3, hF4, hF5, hF6, if_true, Bool.false_eq_true, if_false]
    rfl
  have HF0 : Hid (∀ W ob, Lk wa g m n wc gc mc was c mk i w W → NumsAt W (some ⟨ob, 0, none⟩) [11] → FolSays wa g m n wc gc mc i 1 false W ob) := fun W ob hW ho => fol_says hW hn hi [11] 1 rfl (by omega) (by omega) false hF0 ob ho
  have HF1 : Hid (∀ W ob, Lk wa g m n wc gc mc was c mk i w W → NumsAt W (some ⟨ob, 0, none⟩) [12] → FolSays wa g m n wc gc mc i 1 false W ob) := fun W ob hW ho => fol_says hW hn hi [12] 1 rfl (by omega) (by omega) false hF1 ob ho
  have HF2 : Hid (∀ W ob, Lk wa g m n wc gc mc was c mk i w W → NumsAt W (some ⟨ob, 0, none⟩) [1, 1, 10] → FolSays wa g m n wc gc mc i 3 false W ob) := fun W ob hW ho => fol_says hW hn hi [1, 1, 10] 3 rfl (by omega) (by omega) false hF2 ob ho
  have HF3 : Hid (∀ W ob, Lk wa g m n wc gc mc was c mk i w W → NumsAt W (some ⟨ob, 0, none⟩) [1, 12] → FolSays wa g m n wc gc mc i 2 false W ob) := fun W ob hW ho => fol_says hW hn hi [1, 12] 2 rfl (by omega) (by omega) false hF3 ob ho
  have HF4 : Hid (∀ W ob, Lk wa g m n wc gc mc was c mk i w W → NumsAt W (some ⟨ob, 0, none⟩) [1, 9] → FolSays wa g m n wc gc mc i 2 false W ob) := fun W ob hW ho => fol_says hW hn hi [1, 9] 2 rfl (by omega) (by omega) false hF4 ob ho
  have HF5 : Hid (∀ W ob, Lk wa g m n wc gc mc was c mk i w W → NumsAt W (some ⟨ob, 0, none⟩) [1, 22] → FolSays wa g m n wc gc mc i 2 false W ob) := fun W ob hW ho => fol_says hW hn hi [1, 22] 2 rfl (by omega) (by omega) false hF5 ob ho
  have HF6 : Hid (∀ W ob, Lk wa g m n wc gc mc was c mk i w W → NumsAt W (some ⟨ob, 0, none⟩) [1, 17] → FolSays wa g m n wc gc mc i 2 true W ob) := fun W ob hW ho => fol_says hW hn hi [1, 17] 2 rfl (by omega) (by omega) true hF6 ob ho
  have hgw := h.code.lt
  have c1 := h.code.a i (by rw [hlc]; exact hi)
  have HK := hid (Lk.new (n := n) (wc := wc) (gc := gc) (mc := mc) (i := i) h)
  have hi1 : i + 1 < n := by
    rw [follow2] at hF6
    simp only [Bool.and_eq_true] at hF6
    have := (Mc.bare_of hF6.2).1
    omega
  have HLay : Hid (∀ W lb, Lk wa g m n wc gc mc was c mk i w W → lb < W.heap.size → (∀ j v, (cellsI (Mc.nopI) ++ cellsI (Mc.nopI))[j]? = some v → W.cell? ⟨lb, j, none⟩ = some v) → LayOk wa g m n wc gc mc i 2 (Mc.lay2' c i Mc.nopI (Mc.nopI)) W lb) := fun W lb hW hlb hs => lay2_any wa g m n wc gc mc was c mk i lb 2 (Mc.nopI) (Mc.nopI) W hW.hole hn (by omega) hgc hs hlb
  have HNop : Hid (∀ W, Calls Try.prog 36 #[] W fun e w' => e = .returned (.agg #[.int .i64 21, .int .i64 0, .int .i64 0]) ∧ Below W.heap.size W w') := nop_any
  have HPsh : Hid (∀ v W, Calls Try.prog 37 #[.int .i64 v] W fun e w' => e = .returned (.agg #[.int .i64 1, .int .i64 v, .int .i64 0]) ∧ Below W.heap.size W w') := fun v W => push_any' v W
  have HTr : Hid (∀ b W, Calls Try.prog 39 #[.bool b] W fun e w' => e = .returned (.int .i64 (Mc.truth b)) ∧ w' = W) := fun b W => truth_any b W
  clear h hn hlc hF0 hF1 hF2 hF3 hF4 hF5 hF6
  generalize (c.getD i Mc.dI).a = an at *
  go_enter Try.func17, Try.ntmps17
  go_wp2_with fail
  refine (HF0.out _ _ (HK.out.alloc _) (nums1 _ 11 3 _ (by first | rfl | simp))).mono ?_
  rintro e w1 ⟨rfl, hb1⟩
  have HK1 := hid ((HK.out.alloc _).next hb1)
  clear hb1
  have y0 := HK1.out.x0
  have y1 := HK1.out.x1
  have y2 := HK1.out.x2
  go_wp2_with fail
  refine (HF1.out _ _ (HK1.out.alloc _) (nums1 _ 12 3 _ (by first | rfl | simp))).mono ?_
  rintro e w2 ⟨rfl, hb2⟩
  have HK2 := hid ((HK1.out.alloc _).next hb2)
  clear hb2
  clear y0 y1 y2
  have y0 := HK2.out.x0
  have y1 := HK2.out.x1
  have y2 := HK2.out.x2
  go_wp2_with fail
  refine (HF2.out _ _ (HK2.out.alloc _) (nums3 _ 1 1 10 3 _ (by first | rfl | simp))).mono ?_
  rintro e w3 ⟨rfl, hb3⟩
  have HK3 := hid ((HK2.out.alloc _).next hb3)
  clear hb3
  clear y0 y1 y2
  have y0 := HK3.out.x0
  have y1 := HK3.out.x1
  have y2 := HK3.out.x2
  go_wp2_with fail
  refine (HF3.out _ _ (HK3.out.alloc _) (nums2 _ 1 12 3 _ (by first | rfl | simp))).mono ?_
  rintro e w4 ⟨rfl, hb4⟩
  have HK4 := hid ((HK3.out.alloc _).next hb4)
  clear hb4
  clear y0 y1 y2
  have y0 := HK4.out.x0
  have y1 := HK4.out.x1
  have y2 := HK4.out.x2
  go_wp2_with fail
  refine (HF4.out _ _ (HK4.out.alloc _) (nums2 _ 1 9 3 _ (by first | rfl | simp))).mono ?_
  rintro e w5 ⟨rfl, hb5⟩
  have HK5 := hid ((HK4.out.alloc _).next hb5)
  clear hb5
  clear y0 y1 y2
  have y0 := HK5.out.x0
  have y1 := HK5.out.x1
  have y2 := HK5.out.x2
  go_wp2_with fail
  refine (HF5.out _ _ (HK5.out.alloc _) (nums2 _ 1 22 3 _ (by first | rfl | simp))).mono ?_
  rintro e w6 ⟨rfl, hb6⟩
  have HK6 := hid ((HK5.out.alloc _).next hb6)
  clear hb6
  clear y0 y1 y2
  have y0 := HK6.out.x0
  have y1 := HK6.out.x1
  have y2 := HK6.out.x2
  go_wp2_with fail
  refine (HF6.out _ _ (HK6.out.alloc _) (nums2 _ 1 17 3 _ (by first | rfl | simp))).mono ?_
  rintro e w7 ⟨rfl, hb7⟩
  have HK7 := hid ((HK6.out.alloc _).next hb7)
  clear hb7
  clear y0 y1 y2
  have y0 := HK7.out.x0
  have y1 := HK7.out.x1
  have y2 := HK7.out.x2
  go_wp2_with fail
  go_region_held3 (fun W => W.cell? ⟨w.heap.size, 0, none⟩ = some (.slice wa n wc) ∧ W.cell? ⟨w.heap.size, 1, none⟩ = some (.slice (some ⟨g, 0, none⟩) n gc) ∧ W.cell? ⟨w.heap.size, 2, none⟩ = some (.slice (some ⟨m, 0, none⟩) n mc)) (first | (go_keep; done) | exact FF.out)
    (first
      | (go_at_call 36; refine (HNop.out _).mono ?_; rintro e w' ⟨rfl, hb⟩; have HQ : Lk wa g m n wc gc mc was c mk i w w' := (by repeat (first | exact HK7.out | assumption | refine Lk.alloc ?_ _ | refine Lk.drew ?_ | refine Lk.next ?_ ‹Below _ _ _›)); have FF : Hid (w'.cell? ⟨w.heap.size, 0, none⟩ = some (.slice wa n wc) ∧ w'.cell? ⟨w.heap.size, 1, none⟩ = some (.slice (some ⟨g, 0, none⟩) n gc) ∧ w'.cell? ⟨w.heap.size, 2, none⟩ = some (.slice (some ⟨m, 0, none⟩) n mc)) := ⟨HQ.x0, HQ.x1, HQ.x2⟩)
      | (go_at_call 37; refine (HPsh.out _ _).mono ?_; rintro e w' ⟨rfl, hb⟩; have HQ : Lk wa g m n wc gc mc was c mk i w w' := (by repeat (first | exact HK7.out | assumption | refine Lk.alloc ?_ _ | refine Lk.drew ?_ | refine Lk.next ?_ ‹Below _ _ _›)); have FF : Hid (w'.cell? ⟨w.heap.size, 0, none⟩ = some (.slice wa n wc) ∧ w'.cell? ⟨w.heap.size, 1, none⟩ = some (.slice (some ⟨g, 0, none⟩) n gc) ∧ w'.cell? ⟨w.heap.size, 2, none⟩ = some (.slice (some ⟨m, 0, none⟩) n mc)) := ⟨HQ.x0, HQ.x1, HQ.x2⟩)
      | (go_at_call 39; refine (HTr.out _ _).mono ?_; rintro e w' ⟨rfl, rfl⟩)
      | (go_at_call 35; refine (HLay.out _ _ (by repeat (first | exact HK7.out | assumption | refine Lk.alloc ?_ _ | refine Lk.drew ?_ | refine Lk.next ?_ ‹Below _ _ _›)) (by simp) (src2 _ (Mc.nopI) (Mc.nopI) 51 _ (by first | rfl | simp))).mono ?_; rintro e wf ⟨rfl, hc, hg⟩; have HQ2 := Lk.ends (w := w) (wa := wa) (m := m) (n := n) (wc := wc) (gc := gc) (mc := mc) (was := was) (c := c) (mk := mk) (i := i) (by repeat (first | exact HK7.out | assumption | refine Lk.alloc ?_ _ | refine Lk.drew ?_ | refine Lk.next ?_ ‹Below _ _ _›)) hg; have HG := hid HQ2; have FF : Hid (wf.cell? ⟨w.heap.size, 0, none⟩ = some (.slice wa n wc) ∧ wf.cell? ⟨w.heap.size, 1, none⟩ = some (.slice (some ⟨g, 0, none⟩) n gc) ∧ wf.cell? ⟨w.heap.size, 2, none⟩ = some (.slice (some ⟨m, 0, none⟩) n mc)) := (Lk.after (was := was) (c := c) (mk := mk) (i := i) (by repeat (first | exact HK7.out | assumption | refine Lk.alloc ?_ _ | refine Lk.drew ?_ | refine Lk.next ?_ ‹Below _ _ _›)) hg hgw); have HC := hid hc; clear hc HQ2))
  all_goals
    go_wp2_with fail
    go_returns
    exact ⟨rfl, by rw [HL.out]; exact HC.out, HG.out⟩

end Go.Proofs.Ytpahhhhfhnpmjaa
