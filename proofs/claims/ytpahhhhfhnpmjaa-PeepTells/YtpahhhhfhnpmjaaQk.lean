/-
  The first rule that applies at a place: a jump that is decided.
-/
import Derived.Test.YtpahhhhfhnpmjaaQj
import Derived.Deep.DrawnRows
namespace Go.Proofs.Ytpahhhhfhnpmjaa
open Go.RowKit Go.Shelf
set_option maxRecDepth 100000
attribute [local go_sem ↓] Go.wp_at_zero Go.wp_at_succ

set_option maxHeartbeats 3200000 in
theorem look_dec1 (wa : Option Addr) (g m n wc gc mc : Nat) (was c : List Mc.Ins) (mk : List Bool) (i : Nat) (w : World) (h : Hole w wa g m was c mk) (hn : n = was.length) (hi : i < n) (hgc : n ≤ gc) (hF0 : followB c mk i [11] = false) (hF1 : followB c mk i [12] = false) (hF2 : followB c mk i [1, 1, 10] = false) (hF3 : followB c mk i [1, 12] = true) (hz : ¬ (c.getD i Mc.dI).a = 0) :
    Calls Try.prog 17 #[.agg #[.slice wa n wc, .slice (some ⟨g, 0, none⟩) n gc, .slice (some ⟨m, 0, none⟩) n mc], .int .i64 i] w fun e w' => e = .returned (.tuple #[]) ∧ CRow w' g (Mc.lookAt was c mk i) ∧ w.grownBy w' (some g) := by
  have hlc : c.length = n := by rw [hn]; exact h.lc
  have hlen : n ≤ 2048 := by rw [hn]; exact h.len
  have HL : Hid (Mc.lookAt was c mk i = Mc.lay2' c i Mc.nopI (Mc.nopI)) := by
    show _ = _
    rw [look_two (by rw [hlc]; exact hi) hF0 hF1 (by rw [hF2]; rfl)]
    simp only [hF3, if_true]
    rw [show Mc.decI (c.getD i Mc.dI).a (c.getD (i + 1) Mc.dI).a = Mc.nopI from if_neg hz]
    rfl
  have HF0 : Hid (∀ W ob, Lk wa g m n wc gc mc was c mk i w W → NumsAt W (some ⟨ob, 0, none⟩) [11] → FolSays wa g m n wc gc mc i 1 false W ob) := fun W ob hW ho => fol_says hW hn hi [11] 1 rfl (by omega) (by omega) false hF0 ob ho
  have HF1 : Hid (∀ W ob, Lk wa g m n wc gc mc was c mk i w W → NumsAt W (some ⟨ob, 0, none⟩) [12] → FolSays wa g m n wc gc mc i 1 false W ob) := fun W ob hW ho => fol_says hW hn hi [12] 1 rfl (by omega) (by omega) false hF1 ob ho
  have HF2 : Hid (∀ W ob, Lk wa g m n wc gc mc was c mk i w W → NumsAt W (some ⟨ob, 0, none⟩) [1, 1, 10] → FolSays wa g m n wc gc mc i 3 false W ob) := fun W ob hW ho => fol_says hW hn hi [1, 1, 10] 3 rfl (by omega) (by omega) false hF2 ob ho
  have HF3 : Hid (∀ W ob, Lk wa g m n wc gc mc was c mk i w W → NumsAt W (some ⟨ob, 0, none⟩) [1, 12] → FolSays wa g m n wc gc mc i 2 true W ob) := fun W ob hW ho => fol_says hW hn hi [1, 12] 2 rfl (by omega) (by omega) true hF3 ob ho
  have hgw := h.code.lt
  have c1 := h.code.a i (by rw [hlc]; exact hi)
  have HK := hid (Lk.new (n := n) (wc := wc) (gc := gc) (mc := mc) (i := i) h)
  have hi1 : i + 1 < n := by
    rw [follow2] at hF3
    simp only [Bool.and_eq_true] at hF3
    have := (Mc.bare_of hF3.2).1
    omega
  have HLay : Hid (∀ W lb, Lk wa g m n wc gc mc was c mk i w W → lb < W.heap.size → (∀ j v, (cellsI (Mc.nopI) ++ cellsI (Mc.nopI))[j]? = some v → W.cell? ⟨lb, j, none⟩ = some v) → LayOk wa g m n wc gc mc i 2 (Mc.lay2' c i Mc.nopI (Mc.nopI)) W lb) := fun W lb hW hlb hs => lay2_any wa g m n wc gc mc was c mk i lb 2 (Mc.nopI) (Mc.nopI) W hW.hole hn (by omega) hgc hs hlb
  have HA1 : Hid (∀ W, Lk wa g m n wc gc mc was c mk i w W → W.cell? ⟨g, (i + 1) * 3 + 1, none⟩ = some (.int .i64 (c.getD (i + 1) Mc.dI).a)) := fun W hW => hW.hole.code.a (i + 1) (by omega)
  have HDc : Hid (∀ v W, Calls Try.prog 38 #[.int .i64 (c.getD i Mc.dI).a, .int .i64 v] W fun e w' => e = .returned (.agg #[.int .i64 21, .int .i64 0, .int .i64 0]) ∧ Below W.heap.size W w') := fun v W => by
    have := decided_any (c.getD i Mc.dI).a v W
    rw [show Mc.decI (c.getD i Mc.dI).a v = Mc.nopI from if_neg hz] at this
    exact this
  have HNop : Hid (∀ W, Calls Try.prog 36 #[] W fun e w' => e = .returned (.agg #[.int .i64 21, .int .i64 0, .int .i64 0]) ∧ Below W.heap.size W w') := nop_any
  have HPsh : Hid (∀ v W, Calls Try.prog 37 #[.int .i64 v] W fun e w' => e = .returned (.agg #[.int .i64 1, .int .i64 v, .int .i64 0]) ∧ Below W.heap.size W w') := fun v W => push_any' v W
  have HTr : Hid (∀ b W, Calls Try.prog 39 #[.bool b] W fun e w' => e = .returned (.int .i64 (Mc.truth b)) ∧ w' = W) := fun b W => truth_any b W
  clear h hn hlc hz hF0 hF1 hF2 hF3
  generalize (c.getD i Mc.dI).a = an at *
  generalize (c.getD (i + 1) Mc.dI).a = a1 at *
  go_enter Try.func17, Try.ntmps17
  go_wp2_with fail
  refine (HF0.out _ _ (HK.out.alloc _) (nums1 _ 11 3 _ (by first | rfl | simp))).mono ?_
  rintro e w1 ⟨rfl, hb1⟩
  have HK1 := hid ((HK.out.alloc _).next hb1)
  clear hb1
  have y0 := HK1.out.x0
  have y1 := HK1.out.x1
  have y2 := HK1.out.x2
  go_wp2_with fail
  refine (HF1.out _ _ (HK1.out.alloc _) (nums1 _ 12 3 _ (by first | rfl | simp))).mono ?_
  rintro e w2 ⟨rfl, hb2⟩
  have HK2 := hid ((HK1.out.alloc _).next hb2)
  clear hb2
  clear y0 y1 y2
  have y0 := HK2.out.x0
  have y1 := HK2.out.x1
  have y2 := HK2.out.x2
  go_wp2_with fail
  refine (HF2.out _ _ (HK2.out.alloc _) (nums3 _ 1 1 10 3 _ (by first | rfl | simp))).mono ?_
  rintro e w3 ⟨rfl, hb3⟩
  have HK3 := hid ((HK2.out.alloc _).next hb3)
  clear hb3
  clear y0 y1 y2
  have y0 := HK3.out.x0
  have y1 := HK3.out.x1
  have y2 := HK3.out.x2
  go_wp2_with fail
  refine (HF3.out _ _ (HK3.out.alloc _) (nums2 _ 1 12 3 _ (by first | rfl | simp))).mono ?_
  rintro e w4 ⟨rfl, hb4⟩
  have HK4 := hid ((HK3.out.alloc _).next hb4)
  clear hb4
  clear y0 y1 y2
  have y0 := HK4.out.x0
  have y1 := HK4.out.x1
  have y2 := HK4.out.x2
  have q1 := HA1.out _ HK4.out
  go_wp2_with fail
  have hj2 : (0 : Int) ≤ (i : Int) + 1 := by omega
  have hj3 : (i : Int) + 1 < (n : Int) := by omega
  have hwr : IntKind.i64.wrap ((i : Int) + 1) = (i : Int) + 1 := by rw [IntKind.wrap_i64]; omega
  have zl := HK4.out.lt
  have zg := HK4.out.hole.code.lt
  go_region_with
    (first
      | (go_at_call 36; refine (HNop.out _).mono ?_; rintro e w' ⟨rfl, hb⟩; have HQ : Lk wa g m n wc gc mc was c mk i w w' := (by repeat (first | exact HK4.out | assumption | refine Lk.alloc ?_ _ | refine Lk.drew ?_ | refine Lk.next ?_ ‹Below _ _ _›)); have z0 := HQ.x0; have z1 := HQ.x1; have z2 := HQ.x2; have z3 := HA1.out _ HQ; have z4 := HQ.lt; have z5 := HQ.hole.code.lt)
      | (go_at_call 38; refine (HDc.out _ _).mono ?_; rintro e w' ⟨rfl, hb⟩; have HQ : Lk wa g m n wc gc mc was c mk i w w' := (by repeat (first | exact HK4.out | assumption | refine Lk.alloc ?_ _ | refine Lk.drew ?_ | refine Lk.next ?_ ‹Below _ _ _›)); have z0 := HQ.x0; have z1 := HQ.x1; have z2 := HQ.x2; have z3 := HA1.out _ HQ; have z4 := HQ.lt; have z5 := HQ.hole.code.lt)
      | (go_at_call 35; refine (HLay.out _ _ (by repeat (first | exact HK4.out | assumption | refine Lk.alloc ?_ _ | refine Lk.drew ?_ | refine Lk.next ?_ ‹Below _ _ _›)) (by simp) (src2 _ (Mc.nopI) (Mc.nopI) 51 _ (by first | rfl | simp))).mono ?_; rintro e wf ⟨rfl, hc, hg⟩; have HQ2 := Lk.ends (w := w) (wa := wa) (m := m) (n := n) (wc := wc) (gc := gc) (mc := mc) (was := was) (c := c) (mk := mk) (i := i) (by repeat (first | exact HK4.out | assumption | refine Lk.alloc ?_ _ | refine Lk.drew ?_ | refine Lk.next ?_ ‹Below _ _ _›)) hg; have HG := hid HQ2; have HC := hid hc; clear hc HQ2))
  all_goals
    go_wp2_with fail
    go_returns
    exact ⟨rfl, by rw [HL.out]; exact HC.out, HG.out⟩

end Go.Proofs.Ytpahhhhfhnpmjaa
