/-
  What is shown is read again as the same module; what is read is shown by the same tokens, and is right.
-/
import Derived.Test.YtcekpobmbmnplaaGreatDoorVe
import Derived.Test.YtcekpobmbmnplaaGreatDoorQh
namespace Go.Proofs.YtcekpobmbmnplaaGreatDoor
open Go.RowKit
set_option maxRecDepth 100000

theorem all_full {m : Mo} (h : moOk m) : pAll (tM m) = some m := by
  unfold pAll
  rw [module_full h]
theorem back_one {m : Mo} (h : shoE m = 0) (hl : ¬ 4096 < (shoS m).size) : parsR (shoS m) = some m := by
  have he : m.err = 0 := by
    unfold shoE at h
    split at h
    · assumption
    · assumption
  have hs : shoS m = showR (tM m) := by unfold shoS; rw [if_pos h]
  have hc : checkN (tM m) = 0 := (check_cut (m := m) (ts := tM m) he (Or.inl (List.nil_append _).symm)).1.trans h
  have hb : shoS m = strOf (showL (tM m)) := by rw [hs]; unfold showR; rw [if_pos hc]
  have hx : lexAt (shoS m) 0 = some (tM m) := by
    rw [lexAt_zero, hb]
    exact lex_show _ (checkN_zero hc).1
  exact parsR_of (lex_yes hl hx) (all_full (mo_ok he)) he
theorem back_two {s : ByteArray} {y : Mo} (h : parsR s = some y) : lexE s = 0 ∧ y.err = 0 ∧ shoE y = 0 ∧ shoS y = showR (lexT s) ∧ checkN (lexT s) = 0 := by
  unfold parsR at h
  split at h
  · rename_i hl
    split at h
    · rename_i m hm
      split at h
      · rename_i he
        cases h
        have hg := lexT_good s
        obtain ⟨e, _⟩ := pAll_sound hm hg
        have hsE : shoE y = 0 := by unfold shoE; rw [if_pos he, if_neg (by rw [← e]; have := hg.2; omega)]
        have hc := check_cut (ts := lexT s) he (Or.inl (e.trans (List.nil_append _).symm))
        exact ⟨hl, he, hsE, hc.2.symm, hc.1.trans hsE⟩
      · cases h
    · cases h
  · cases h

set_option maxHeartbeats 3200000 in
theorem TreeBack_any (m : Mo) (v : Value) (a1 : Option Addr) (c1 : Nat) (a2 : Option Addr) (c2 : Nat) (a3 : Option Addr) (c3 : Nat) (a4 : Option Addr) (c4 : Nat) (s : ByteArray) (w : World) (htab : Tab w) (hM : MoAt w Tt m v a1 c1 a2 c2 a3 c3 a4 c4) (hs : s.size ≤ maxLen) :
    Calls Tryz.prog 5 #[v, .string s] w fun e w' => e = .returned (.bool true) ∧ Below w.heap.size w w' := by
  obtain rfl := hM.val
  have HTab := hid htab
  have HS := hid hs
  obtain ⟨W0, hW0⟩ : ∃ W0, W0 = w.alloc (.cells #[.string m.name, .slice a1 m.uses.length c1, .slice a2 m.decls.length c2, .slice a3 m.procs.length c3, .slice a4 m.main.length c4] 27) := ⟨_, rfl⟩
  have HB0 : Hid (Below w.heap.size w W0) := by rw [hW0]; exact al1 _ _
  have HX0 : Hid (W0.heap[w.heap.size]? = some (.cells #[.string m.name, .slice a1 m.uses.length c1, .slice a2 m.decls.length c2, .slice a3 m.procs.length c3, .slice a4 m.main.length c4] 27 (0, 0))) := by rw [hW0]; exact heap_newP _ _
  have HM0 := hid (hM.later HB0.out)
  obtain ⟨x0, x1, x2, x3, x4, _⟩ := cellsOf5 HX0.out
  have hx0 := lt_of_heap HX0.out
  clear hM htab hs
  go_enter Tryz.func5, Tryz.ntmps5
  go_upto_region 1 with fail
  rw [← hW0]
  clear hW0
  go_wp2_with fail
  refine (tShow_any m _ a1 c1 a2 c2 a3 c3 a4 c4 W0 (HTab.out.later HB0.out) HM0.out).mono ?_
  have HBk := hid (fun h hl => @back_one m h hl)
  generalize shoE m = se at *
  generalize shoS m = ss at *
  rintro e W1 ⟨rfl, hb1⟩
  have HB1 := hid (thenB HB0.out hb1)
  have HX1 := hid ((hb1.block _ hx0).trans HX0.out)
  have HM1 := hid (HM0.out.later hb1)
  have hx1 := lt_of_heap HX1.out
  clear hb1 HB0 HX0 HM0 x0 x1 x2 x3 x4 hx0
  obtain ⟨x0, x1, x2, x3, x4, _⟩ := cellsOf5 HX1.out
  by_cases hE : se = 0
  · subst hE
    by_cases hL : ss.size ≤ 4096
    · have hd : decide ((ss.size : Int) ≤ 4096) = true := decide_eq_true (by omega)
      have HP := hid (HBk.out rfl (by omega))
      have hml : ss.size ≤ maxLen := by unfold maxLen; omega
      clear HBk hL
      go_wp2_with fail
      refine (Parse_any ss W1 hml).mono ?_
      rintro e W2 ⟨hp, hb2⟩
      rcases hp with ⟨h, _⟩ | ⟨m', u, b1, d1, b2, d2, b3, d3, b4, d4, hm, _, rfl, hM2⟩
      · rw [HP.out] at h; cases h
      rw [HP.out] at hm
      obtain rfl := Option.some.inj hm
      obtain rfl := hM2.val
      obtain ⟨W3, hW3⟩ : ∃ W3, W3 = W2.alloc (.cells #[.string m.name, .slice b1 m.uses.length d1, .slice b2 m.decls.length d2, .slice b3 m.procs.length d3, .slice b4 m.main.length d4] 27) := ⟨_, rfl⟩
      have hB3 : Below W2.heap.size W2 W3 := by rw [hW3]; exact al1 _ _
      have hb3 := thenB hb2 hB3
      have HB3 := hid (thenB HB1.out hb3)
      have HM3 := hid (HM1.out.later hb3)
      have HN3 := hid (hM2.later hB3)
      clear x0 x1 x2 x3 x4
      have hx3 := (hb3.block _ hx1).trans HX1.out
      have hz3 := lt_of_heap hx3
      have hy3 : W3.heap[W2.heap.size]? = some (.cells #[.string m.name, .slice b1 m.uses.length d1, .slice b2 m.decls.length d2, .slice b3 m.procs.length d3, .slice b4 m.main.length d4] 27 (0, 0)) := by rw [hW3]; exact heap_newP _ _
      have hx2 := (hb2.block _ hx1).trans HX1.out
      obtain ⟨x0, x1, x2, x3, x4, _⟩ := cellsOf5 hx2
      have hxl := lt_of_heap hx2
      clear hM2 hb2 hb3 HB1 HM1 HX1 HP hx3 hz3 hx2 hy3 hB3
      go_wp2_with fail
      rw [← hW3]
      clear hW3
      refine (sameModules_any m _ _ b1 d1 b2 d2 b3 d3 b4 d4 a1 c1 a2 c2 a3 c3 a4 c4 W3 HN3.out HM3.out).mono ?_
      rintro e W4 ⟨rfl, hb4⟩
      have HB5 := hid (thenB HB3.out hb4)
      clear hb4 HB3 HN3 HM3
      go_wp2_with fail
      refine (Parse_any s _ HS.out).mono ?_
      have HBk2 := hid (fun y h => @back_two s y h)
      rintro e W6 ⟨hp, hb6⟩
      have HB6 := hid (thenB HB5.out hb6)
      clear hb6 HB5
      rcases hp with ⟨_, hE, rfl⟩ | ⟨y, u, p1, q1, p2, q2, p3, q3, p4, q4, hy, _, rfl, hMy⟩
      · have hne : (parsE s == 0) = false := by simp [hE]
        have HB7 := hid (thenB HB6.out (al1 W6 (.cells #[.string ⟨#[]⟩, .slice none 0 0, .slice none 0 0, .slice none 0 0, .slice none 0 0] 27)))
        clear hE HBk2
        generalize parsE s = pe at *
        go_wp2_with fail
        refine (treeBegun_any _ (HTab.out.later HB7.out)).mono ?_
        rintro e W8 ⟨rfl, hb8⟩
        have HB8 := hid (thenB HB7.out hb8)
        clear hb8
        go_wp2_with fail
        go_ret
        exact ⟨rfl, HB8.out⟩
      · have HF := hid (HBk2.out y hy)
        obtain rfl := hMy.val
        obtain ⟨W7, hW7⟩ : ∃ W7, W7 = W6.alloc (.cells #[.string y.name, .slice p1 y.uses.length q1, .slice p2 y.decls.length q2, .slice p3 y.procs.length q3, .slice p4 y.main.length q4] 27) := ⟨_, rfl⟩
        have hB7 : Below W6.heap.size W6 W7 := by rw [hW7]; exact al1 _ _
        have HX7 : Hid (W7.heap[W6.heap.size]? = some (.cells #[.string y.name, .slice p1 y.uses.length q1, .slice p2 y.decls.length q2, .slice p3 y.procs.length q3, .slice p4 y.main.length q4] 27 (0, 0))) := by rw [hW7]; exact heap_newP _ _
        have HB7 := hid (thenB HB6.out hB7)
        have HM7 := hid (hMy.later hB7)
        clear hMy hB7 HB6 hy HBk2
        go_wp2_with fail
        rw [← hW7]
        clear hW7
        refine (tShow_any y _ p1 q1 p2 q2 p3 q3 p4 q4 W7 (HTab.out.later HB7.out) HM7.out).mono ?_
        rw [HF.out.2.2.1, HF.out.2.2.2.1]
        rintro e W8 ⟨rfl, hb8⟩
        have HB8 := hid (thenB HB7.out hb8)
        have HM8 := hid (HM7.out.later hb8)
        have HX8 := hid ((hb8.block _ (lt_of_heap HX7.out)).trans HX7.out)
        clear hb8 HB7 HM7 HX7
        go_wp2_with fail
        refine (Lex_any s W8 HS.out).mono ?_
        rw [HF.out.1]
        have HG := hid (lexT_good s).2
        rintro e W9 ⟨la, lc, rfl, hT, hb9⟩
        have HT := hid hT
        have HB9 := hid (thenB HB8.out hb9)
        have HM9 := hid (HM8.out.later hb9)
        have HX9 := hid ((hb9.block _ (lt_of_heap HX8.out)).trans HX8.out)
        clear hT hb9 HB8 HM8 HX8
        go_wp2_with fail
        refine (Show_any la lc (lexT s) W9 HT.out (by have := HG.out; omega) (HTab.out.later HB9.out)).mono ?_
        rw [HF.out.2.2.2.2]
        rintro e W10 ⟨rfl, hb10⟩
        have HB10 := hid (thenB HB9.out hb10)
        have HM10 := hid (HM9.out.later hb10)
        have HX10 := hid ((hb10.block _ (lt_of_heap HX9.out)).trans HX9.out)
        clear hb10 HB9 HM9 HX9 HT HG
        generalize lexT s = lx at *
        generalize showR lx = sl at *
        go_wp2_with fail
        refine (treeBegun_any _ (HTab.out.later HB10.out)).mono ?_
        rintro e W11 ⟨rfl, hb11⟩
        have HB11 := hid (thenB HB10.out hb11)
        have HM11 := hid (HM10.out.later hb11)
        have hX11 := (hb11.block _ (lt_of_heap HX10.out)).trans HX10.out
        obtain ⟨z0, z1, z2, z3, z4, _⟩ := cellsOf5 hX11
        have hzl := lt_of_heap hX11
        clear hb11 HB10 HM10 HX10 hX11
        go_wp2_with fail
        refine (tCheck_any y _ p1 q1 p2 q2 p3 q3 p4 q4 W11 HM11.out).mono ?_
        rw [HF.out.2.1]
        rintro e W12 ⟨rfl, hb12⟩
        have HB12 := hid (thenB HB11.out hb12)
        clear hb12
        go_wp2_with fail
        go_ret
        exact ⟨rfl, HB12.out⟩
    · have hd : decide ((ss.size : Int) ≤ 4096) = false := decide_eq_false (by omega)
      have HB5 := hid HB1.out
      clear HBk hL
      go_wp2_with fail
      refine (Parse_any s _ HS.out).mono ?_
      have HBk2 := hid (fun y h => @back_two s y h)
      rintro e W6 ⟨hp, hb6⟩
      have HB6 := hid (thenB HB5.out hb6)
      clear hb6 HB5
      rcases hp with ⟨_, hE, rfl⟩ | ⟨y, u, p1, q1, p2, q2, p3, q3, p4, q4, hy, _, rfl, hMy⟩
      · have hne : (parsE s == 0) = false := by simp [hE]
        have HB7 := hid (thenB HB6.out (al1 W6 (.cells #[.string ⟨#[]⟩, .slice none 0 0, .slice none 0 0, .slice none 0 0, .slice none 0 0] 27)))
        clear hE HBk2
        generalize parsE s = pe at *
        go_wp2_with fail
        refine (treeBegun_any _ (HTab.out.later HB7.out)).mono ?_
        rintro e W8 ⟨rfl, hb8⟩
        have HB8 := hid (thenB HB7.out hb8)
        clear hb8
        go_wp2_with fail
        go_ret
        exact ⟨rfl, HB8.out⟩
      · have HF := hid (HBk2.out y hy)
        obtain rfl := hMy.val
        obtain ⟨W7, hW7⟩ : ∃ W7, W7 = W6.alloc (.cells #[.string y.name, .slice p1 y.uses.length q1, .slice p2 y.decls.length q2, .slice p3 y.procs.length q3, .slice p4 y.main.length q4] 27) := ⟨_, rfl⟩
        have hB7 : Below W6.heap.size W6 W7 := by rw [hW7]; exact al1 _ _
        have HX7 : Hid (W7.heap[W6.heap.size]? = some (.cells #[.string y.name, .slice p1 y.uses.length q1, .slice p2 y.decls.length q2, .slice p3 y.procs.length q3, .slice p4 y.main.length q4] 27 (0, 0))) := by rw [hW7]; exact heap_newP _ _
        have HB7 := hid (thenB HB6.out hB7)
        have HM7 := hid (hMy.later hB7)
        clear hMy hB7 HB6 hy HBk2
        go_wp2_with fail
        rw [← hW7]
        clear hW7
        refine (tShow_any y _ p1 q1 p2 q2 p3 q3 p4 q4 W7 (HTab.out.later HB7.out) HM7.out).mono ?_
        rw [HF.out.2.2.1, HF.out.2.2.2.1]
        rintro e W8 ⟨rfl, hb8⟩
        have HB8 := hid (thenB HB7.out hb8)
        have HM8 := hid (HM7.out.later hb8)
        have HX8 := hid ((hb8.block _ (lt_of_heap HX7.out)).trans HX7.out)
        clear hb8 HB7 HM7 HX7
        go_wp2_with fail
        refine (Lex_any s W8 HS.out).mono ?_
        rw [HF.out.1]
        have HG := hid (lexT_good s).2
        rintro e W9 ⟨la, lc, rfl, hT, hb9⟩
        have HT := hid hT
        have HB9 := hid (thenB HB8.out hb9)
        have HM9 := hid (HM8.out.later hb9)
        have HX9 := hid ((hb9.block _ (lt_of_heap HX8.out)).trans HX8.out)
        clear hT hb9 HB8 HM8 HX8
        go_wp2_with fail
        refine (Show_any la lc (lexT s) W9 HT.out (by have := HG.out; omega) (HTab.out.later HB9.out)).mono ?_
        rw [HF.out.2.2.2.2]
        rintro e W10 ⟨rfl, hb10⟩
        have HB10 := hid (thenB HB9.out hb10)
        have HM10 := hid (HM9.out.later hb10)
        have HX10 := hid ((hb10.block _ (lt_of_heap HX9.out)).trans HX9.out)
        clear hb10 HB9 HM9 HX9 HT HG
        generalize lexT s = lx at *
        generalize showR lx = sl at *
        go_wp2_with fail
        refine (treeBegun_any _ (HTab.out.later HB10.out)).mono ?_
        rintro e W11 ⟨rfl, hb11⟩
        have HB11 := hid (thenB HB10.out hb11)
        have HM11 := hid (HM10.out.later hb11)
        have hX11 := (hb11.block _ (lt_of_heap HX10.out)).trans HX10.out
        obtain ⟨z0, z1, z2, z3, z4, _⟩ := cellsOf5 hX11
        have hzl := lt_of_heap hX11
        clear hb11 HB10 HM10 HX10 hX11
        go_wp2_with fail
        refine (tCheck_any y _ p1 q1 p2 q2 p3 q3 p4 q4 W11 HM11.out).mono ?_
        rw [HF.out.2.1]
        rintro e W12 ⟨rfl, hb12⟩
        have HB12 := hid (thenB HB11.out hb12)
        clear hb12
        go_wp2_with fail
        go_ret
        exact ⟨rfl, HB12.out⟩
  · have heb : (se == 0) = false := by simp [hE]
    have HB5 := hid HB1.out
    clear HBk hE
    go_wp2_with fail
    refine (Parse_any s _ HS.out).mono ?_
    have HBk2 := hid (fun y h => @back_two s y h)
    rintro e W6 ⟨hp, hb6⟩
    have HB6 := hid (thenB HB5.out hb6)
    clear hb6 HB5
    rcases hp with ⟨_, hE, rfl⟩ | ⟨y, u, p1, q1, p2, q2, p3, q3, p4, q4, hy, _, rfl, hMy⟩
    · have hne : (parsE s == 0) = false := by simp [hE]
      have HB7 := hid (thenB HB6.out (al1 W6 (.cells #[.string ⟨#[]⟩, .slice none 0 0, .slice none 0 0, .slice none 0 0, .slice none 0 0] 27)))
      clear hE HBk2
      generalize parsE s = pe at *
      go_wp2_with fail
      refine (treeBegun_any _ (HTab.out.later HB7.out)).mono ?_
      rintro e W8 ⟨rfl, hb8⟩
      have HB8 := hid (thenB HB7.out hb8)
      clear hb8
      go_wp2_with fail
      go_ret
      exact ⟨rfl, HB8.out⟩
    · have HF := hid (HBk2.out y hy)
      obtain rfl := hMy.val
      obtain ⟨W7, hW7⟩ : ∃ W7, W7 = W6.alloc (.cells #[.string y.name, .slice p1 y.uses.length q1, .slice p2 y.decls.length q2, .slice p3 y.procs.length q3, .slice p4 y.main.length q4] 27) := ⟨_, rfl⟩
      have hB7 : Below W6.heap.size W6 W7 := by rw [hW7]; exact al1 _ _
      have HX7 : Hid (W7.heap[W6.heap.size]? = some (.cells #[.string y.name, .slice p1 y.uses.length q1, .slice p2 y.decls.length q2, .slice p3 y.procs.length q3, .slice p4 y.main.length q4] 27 (0, 0))) := by rw [hW7]; exact heap_newP _ _
      have HB7 := hid (thenB HB6.out hB7)
      have HM7 := hid (hMy.later hB7)
      clear hMy hB7 HB6 hy HBk2
      go_wp2_with fail
      rw [← hW7]
      clear hW7
      refine (tShow_any y _ p1 q1 p2 q2 p3 q3 p4 q4 W7 (HTab.out.later HB7.out) HM7.out).mono ?_
      rw [HF.out.2.2.1, HF.out.2.2.2.1]
      rintro e W8 ⟨rfl, hb8⟩
      have HB8 := hid (thenB HB7.out hb8)
      have HM8 := hid (HM7.out.later hb8)
      have HX8 := hid ((hb8.block _ (lt_of_heap HX7.out)).trans HX7.out)
      clear hb8 HB7 HM7 HX7
      go_wp2_with fail
      refine (Lex_any s W8 HS.out).mono ?_
      rw [HF.out.1]
      have HG := hid (lexT_good s).2
      rintro e W9 ⟨la, lc, rfl, hT, hb9⟩
      have HT := hid hT
      have HB9 := hid (thenB HB8.out hb9)
      have HM9 := hid (HM8.out.later hb9)
      have HX9 := hid ((hb9.block _ (lt_of_heap HX8.out)).trans HX8.out)
      clear hT hb9 HB8 HM8 HX8
      go_wp2_with fail
      refine (Show_any la lc (lexT s) W9 HT.out (by have := HG.out; omega) (HTab.out.later HB9.out)).mono ?_
      rw [HF.out.2.2.2.2]
      rintro e W10 ⟨rfl, hb10⟩
      have HB10 := hid (thenB HB9.out hb10)
      have HM10 := hid (HM9.out.later hb10)
      have HX10 := hid ((hb10.block _ (lt_of_heap HX9.out)).trans HX9.out)
      clear hb10 HB9 HM9 HX9 HT HG
      generalize lexT s = lx at *
      generalize showR lx = sl at *
      go_wp2_with fail
      refine (treeBegun_any _ (HTab.out.later HB10.out)).mono ?_
      rintro e W11 ⟨rfl, hb11⟩
      have HB11 := hid (thenB HB10.out hb11)
      have HM11 := hid (HM10.out.later hb11)
      have hX11 := (hb11.block _ (lt_of_heap HX10.out)).trans HX10.out
      obtain ⟨z0, z1, z2, z3, z4, _⟩ := cellsOf5 hX11
      have hzl := lt_of_heap hX11
      clear hb11 HB10 HM10 HX10 hX11
      go_wp2_with fail
      refine (tCheck_any y _ p1 q1 p2 q2 p3 q3 p4 q4 W11 HM11.out).mono ?_
      rw [HF.out.2.1]
      rintro e W12 ⟨rfl, hb12⟩
      have HB12 := hid (thenB HB11.out hb12)
      clear hb12
      go_wp2_with fail
      go_ret
      exact ⟨rfl, HB12.out⟩
end Go.Proofs.YtcekpobmbmnplaaGreatDoor
