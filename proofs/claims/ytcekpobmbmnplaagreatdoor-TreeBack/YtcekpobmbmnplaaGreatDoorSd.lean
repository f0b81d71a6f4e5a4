/-
  The writer: expressions.
-/
import Derived.Test.YtcekpobmbmnplaaGreatDoorSc
namespace Go.Proofs.YtcekpobmbmnplaaGreatDoor
open Go.RowKit Go.Shelf

set_option maxRecDepth 100000 in
set_option maxHeartbeats 1600000 in
theorem expr_1 (n : Int) (m nm : ByteArray) (k : Nat) (b : Nat) (ts : List Tk) (v0 : Value) (W : World) (aa : Option Addr) (cap : Nat) (h : Wr b ts v0 W) (hl : ts.length + 1 ≤ 4000000000000) :
    Calls Tryz.prog 124 #[.pointer (some ⟨b, 0, none⟩), .agg #[.int .i64 1, .int .i64 n, .string m, .string nm, .slice aa k cap]] W (WEnd b ts v0 W ([nTk n])) := by
  obtain ⟨W0, hW0⟩ : ∃ W0, W0 = W.alloc (.cells #[.int .i64 1, .int .i64 n, .string m, .string nm, .slice aa k cap] 76) := ⟨_, rfl⟩
  obtain ⟨x0_0, x1_0, x2_0, x3_0, x4_0⟩ := box5 W (.int .i64 1) (.int .i64 n) (.string m) (.string nm) (.slice aa k cap) 76
  rw [← hW0] at x0_0 x1_0 x2_0 x3_0 x4_0
  have H0 : Hid (Wr b (ts ++ []) v0 W0) := by
    rw [hW0, List.append_nil]; exact h.alloc _
  have K0 : Hid (WK b v0 v0 W W0) := by rw [hW0]; exact WK.of_below (al1 _ _) b v0
  have hz0 : W0.heap.size = W.heap.size + 1 := by rw [hW0]; simp
  have hlt0 : b < W0.heap.size := H0.out.lt
  have hf0 : Hid (Off b v0 W.heap.size) := h.own (Nat.le_refl _)
  have hx0 : W.heap.size < W0.heap.size := by omega
  clear h 
  generalize hkb : W.heap.size = kb at *
  go_enter Tryz.func124, Tryz.ntmps124
  go_upto_region 1 with fail
  rw [← hW0]
  clear hW0
  go_wp2_with fail
  refine (number_any_w b _ v0 n W0 H0.out (by simp; omega)).mono ?_
  rintro e W1 ⟨v1, rfl, hh, kk⟩
  have H1 : Hid (Wr b (ts ++ ([nTk n])) v1 W1) := by
    have := hh
    rw [List.append_assoc] at this
    exact this
  have K1 := hid (K0.out.trans kk)
  have hlt1 := hh.lt
  have hz1 := kk.size
  have x0_1 := (kk.cell (off := 0) hx0 hf0.out).trans x0_0
  have x1_1 := (kk.cell (off := 1) hx0 hf0.out).trans x1_0
  have x2_1 := (kk.cell (off := 2) hx0 hf0.out).trans x2_0
  have x3_1 := (kk.cell (off := 3) hx0 hf0.out).trans x3_0
  have x4_1 := (kk.cell (off := 4) hx0 hf0.out).trans x4_0
  have hf1 := hid (kk.off hx0 hf0.out)
  have hx1 : kb < W1.heap.size := Nat.lt_of_lt_of_le hx0 kk.size
  clear hh kk
  clear x0_0 x1_0 x2_0 x3_0 x4_0
  go_wp2_with fail
  go_end0
  exact ⟨v1, rfl, H1.out, K1.out⟩
set_option maxRecDepth 100000 in
set_option maxHeartbeats 1600000 in
theorem expr_2 (n : Int) (m nm : ByteArray) (k : Nat) (b : Nat) (ts : List Tk) (v0 : Value) (W : World) (aa : Option Addr) (cap : Nat) (h : Wr b ts v0 W) (hl : ts.length + 1 ≤ 4000000000000) :
    Calls Tryz.prog 124 #[.pointer (some ⟨b, 0, none⟩), .agg #[.int .i64 2, .int .i64 n, .string m, .string nm, .slice aa k cap]] W (WEnd b ts v0 W ([kTk tIn])) := by
  have HE : Hid ([kTk tIn] = [pTk tIn]) := by
    show _ = _
    rw [pk (t := tIn) (by decide)]
  obtain ⟨W0, hW0⟩ : ∃ W0, W0 = W.alloc (.cells #[.int .i64 2, .int .i64 n, .string m, .string nm, .slice aa k cap] 76) := ⟨_, rfl⟩
  obtain ⟨x0_0, x1_0, x2_0, x3_0, x4_0⟩ := box5 W (.int .i64 2) (.int .i64 n) (.string m) (.string nm) (.slice aa k cap) 76
  rw [← hW0] at x0_0 x1_0 x2_0 x3_0 x4_0
  have H0 : Hid (Wr b (ts ++ []) v0 W0) := by
    rw [hW0, List.append_nil]; exact h.alloc _
  have K0 : Hid (WK b v0 v0 W W0) := by rw [hW0]; exact WK.of_below (al1 _ _) b v0
  have hz0 : W0.heap.size = W.heap.size + 1 := by rw [hW0]; simp
  have hlt0 : b < W0.heap.size := H0.out.lt
  have hf0 : Hid (Off b v0 W.heap.size) := h.own (Nat.le_refl _)
  have hx0 : W.heap.size < W0.heap.size := by omega
  clear h 
  generalize hkb : W.heap.size = kb at *
  go_enter Tryz.func124, Tryz.ntmps124
  go_upto_region 1 with fail
  rw [← hW0]
  clear hW0
  go_wp2_with fail
  refine (put1 b _ tIn _ v0 W0 (by omega) H0.out (by decide) (by simp; omega)).mono ?_
  rintro e W1 ⟨v1, rfl, hh, kk⟩
  have H1 : Hid (Wr b (ts ++ ([pTk tIn])) v1 W1) := by
    have := hh
    rw [List.append_assoc] at this
    exact this
  have K1 := hid (K0.out.trans kk)
  have hlt1 := hh.lt
  have hz1 := kk.size
  have x0_1 := (kk.cell (off := 0) hx0 hf0.out).trans x0_0
  have x1_1 := (kk.cell (off := 1) hx0 hf0.out).trans x1_0
  have x2_1 := (kk.cell (off := 2) hx0 hf0.out).trans x2_0
  have x3_1 := (kk.cell (off := 3) hx0 hf0.out).trans x3_0
  have x4_1 := (kk.cell (off := 4) hx0 hf0.out).trans x4_0
  have hf1 := hid (kk.off hx0 hf0.out)
  have hx1 : kb < W1.heap.size := Nat.lt_of_lt_of_le hx0 kk.size
  clear hh kk
  clear x0_0 x1_0 x2_0 x3_0 x4_0
  go_wp2_with fail
  go_end0
  exact ⟨v1, rfl, by rw [HE.out]; exact H1.out, K1.out⟩
set_option maxRecDepth 100000 in
set_option maxHeartbeats 1600000 in
theorem expr_3 (n : Int) (m nm : ByteArray) (k : Nat) (b : Nat) (ts : List Tk) (v0 : Value) (W : World) (aa : Option Addr) (cap : Nat) (h : Wr b ts v0 W) (hn : nameOk nm = true) (hmm : m.size = 0 ∨ nameOk m = true) (hl : ts.length + (refT m nm).length ≤ 4000000000000) :
    Calls Tryz.prog 124 #[.pointer (some ⟨b, 0, none⟩), .agg #[.int .i64 3, .int .i64 n, .string m, .string nm, .slice aa k cap]] W (WEnd b ts v0 W (refT m nm)) := by
  obtain ⟨W0, hW0⟩ : ∃ W0, W0 = W.alloc (.cells #[.int .i64 3, .int .i64 n, .string m, .string nm, .slice aa k cap] 76) := ⟨_, rfl⟩
  obtain ⟨x0_0, x1_0, x2_0, x3_0, x4_0⟩ := box5 W (.int .i64 3) (.int .i64 n) (.string m) (.string nm) (.slice aa k cap) 76
  rw [← hW0] at x0_0 x1_0 x2_0 x3_0 x4_0
  have H0 : Hid (Wr b (ts ++ []) v0 W0) := by
    rw [hW0, List.append_nil]; exact h.alloc _
  have K0 : Hid (WK b v0 v0 W W0) := by rw [hW0]; exact WK.of_below (al1 _ _) b v0
  have hz0 : W0.heap.size = W.heap.size + 1 := by rw [hW0]; simp
  have hlt0 : b < W0.heap.size := H0.out.lt
  have hf0 : Hid (Off b v0 W.heap.size) := h.own (Nat.le_refl _)
  have hx0 : W.heap.size < W0.heap.size := by omega
  clear h 
  generalize hkb : W.heap.size = kb at *
  go_enter Tryz.func124, Tryz.ntmps124
  go_upto_region 1 with fail
  rw [← hW0]
  clear hW0
  go_wp2_with fail
  refine (ref_w b m nm _ v0 W0 H0.out hn hmm (by simp; omega)).mono ?_
  rintro e W1 ⟨v1, rfl, hh, kk⟩
  have H1 : Hid (Wr b (ts ++ (refT m nm)) v1 W1) := by
    have := hh
    rw [List.append_assoc] at this
    exact this
  have K1 := hid (K0.out.trans kk)
  have hlt1 := hh.lt
  have hz1 := kk.size
  have x0_1 := (kk.cell (off := 0) hx0 hf0.out).trans x0_0
  have x1_1 := (kk.cell (off := 1) hx0 hf0.out).trans x1_0
  have x2_1 := (kk.cell (off := 2) hx0 hf0.out).trans x2_0
  have x3_1 := (kk.cell (off := 3) hx0 hf0.out).trans x3_0
  have x4_1 := (kk.cell (off := 4) hx0 hf0.out).trans x4_0
  have hf1 := hid (kk.off hx0 hf0.out)
  have hx1 : kb < W1.heap.size := Nat.lt_of_lt_of_le hx0 kk.size
  clear hh kk
  clear x0_0 x1_0 x2_0 x3_0 x4_0
  go_wp2_with fail
  go_end0
  exact ⟨v1, rfl, H1.out, K1.out⟩
set_option maxRecDepth 100000 in
set_option maxHeartbeats 1600000 in
theorem expr_4 (n : Int) (m nm : ByteArray) (x : Ex) (hX : WrE x) (b : Nat) (ts : List Tk) (v0 : Value) (W : World) (aa : Option Addr) (cap : Nat) (h : Wr b ts v0 W) (hA : DAt W (Off b v0) aa 1 (exsD [x])) (hn : nameOk nm = true) (hmm : m.size = 0 ∨ nameOk m = true) (hl : ts.length + (refT m nm).length + (tE x).length + 2 ≤ 4000000000000) :
    Calls Tryz.prog 124 #[.pointer (some ⟨b, 0, none⟩), .agg #[.int .i64 4, .int .i64 n, .string m, .string nm, .slice aa 1 cap]] W (WEnd b ts v0 W (refT m nm ++ kTk tLs :: (tE x ++ [kTk tRs]))) := by
  have HX := hid hX
  clear hX
  obtain ⟨W0, hW0⟩ : ∃ W0, W0 = W.alloc (.cells #[.int .i64 4, .int .i64 n, .string m, .string nm, .slice aa 1 cap] 76) := ⟨_, rfl⟩
  obtain ⟨x0_0, x1_0, x2_0, x3_0, x4_0⟩ := box5 W (.int .i64 4) (.int .i64 n) (.string m) (.string nm) (.slice aa 1 cap) 76
  rw [← hW0] at x0_0 x1_0 x2_0 x3_0 x4_0
  have H0 : Hid (Wr b (ts ++ []) v0 W0) := by
    rw [hW0, List.append_nil]; exact h.alloc _
  have K0 : Hid (WK b v0 v0 W W0) := by rw [hW0]; exact WK.of_below (al1 _ _) b v0
  have hz0 : W0.heap.size = W.heap.size + 1 := by rw [hW0]; simp
  have hlt0 : b < W0.heap.size := H0.out.lt
  have hf0 : Hid (Off b v0 W.heap.size) := h.own (Nat.le_refl _)
  have hx0 : W.heap.size < W0.heap.size := by omega
  have DA0 : Hid (DAt W0 (Off b v0) aa 1 (exsD [x])) := by rw [hW0]; exact hA.moves (Moves.of_below (al1 _ _) _)
  clear h hA
  generalize hkb : W.heap.size = kb at *
  go_enter Tryz.func124, Tryz.ntmps124
  go_upto_region 1 with fail
  rw [← hW0]
  clear hW0
  go_wp2_with fail
  refine (ref_w b m nm _ v0 W0 H0.out hn hmm (by simp; omega)).mono ?_
  rintro e W1 ⟨v1, rfl, hh, kk⟩
  have H1 : Hid (Wr b (ts ++ (refT m nm)) v1 W1) := by
    have := hh
    rw [List.append_assoc] at this
    exact this
  have K1 := hid (K0.out.trans kk)
  have hlt1 := hh.lt
  have hz1 := kk.size
  have DA1 := hid (DA0.out.moves kk.moves)
  have x0_1 := (kk.cell (off := 0) hx0 hf0.out).trans x0_0
  have x1_1 := (kk.cell (off := 1) hx0 hf0.out).trans x1_0
  have x2_1 := (kk.cell (off := 2) hx0 hf0.out).trans x2_0
  have x3_1 := (kk.cell (off := 3) hx0 hf0.out).trans x3_0
  have x4_1 := (kk.cell (off := 4) hx0 hf0.out).trans x4_0
  have hf1 := hid (kk.off hx0 hf0.out)
  have hx1 : kb < W1.heap.size := Nat.lt_of_lt_of_le hx0 kk.size
  clear hh kk
  clear x0_0 x1_0 x2_0 x3_0 x4_0
  obtain ⟨eb0, eo0, ea0, ec0, he0, hx0'⟩ := DA1.out.ex (l := [x]) 0 (by simp)
  subst he0
  have hx0 : ExAt W1 (Off b v1) eb0 (eo0 + 0 * 5) x ea0 ec0 := hx0'
  have q00 := hx0.c0
  have q01 := hx0.c1
  have q02 := hx0.c2
  have q03 := hx0.c3
  have q04 := hx0.c4
  rw [Nat.zero_mul, Nat.add_zero] at q00 q01 q02 q03 q04
  have hle0 := hx0.lt
  have HEx0 := hid hx0
  clear hx0 hx0'
  go_wp2_with fail
  refine (index_w x HX.out b _ v1 W1 ea0 ec0 H1.out HEx0.out.args HEx0.out.wm HEx0.out.wna (by simp; omega)).mono ?_
  rintro e W2 ⟨v2, rfl, hh, kk⟩
  have H2 : Hid (Wr b (ts ++ (refT m nm ++ kTk tLs :: (tE x ++ [kTk tRs]))) v2 W2) := by
    have := hh
    rw [List.append_assoc] at this
    exact this
  have K2 := hid (K1.out.trans kk)
  have hlt2 := hh.lt
  have hz2 := kk.size
  have DA2 := hid (DA1.out.moves kk.moves)
  have x0_2 := (kk.cell (off := 0) hx1 hf1.out).trans x0_1
  have x1_2 := (kk.cell (off := 1) hx1 hf1.out).trans x1_1
  have x2_2 := (kk.cell (off := 2) hx1 hf1.out).trans x2_1
  have x3_2 := (kk.cell (off := 3) hx1 hf1.out).trans x3_1
  have x4_2 := (kk.cell (off := 4) hx1 hf1.out).trans x4_1
  have hf2 := hid (kk.off hx1 hf1.out)
  have hx2 : kb < W2.heap.size := Nat.lt_of_lt_of_le hx1 kk.size
  clear hh kk
  clear x0_1 x1_1 x2_1 x3_1 x4_1
  go_wp2_with fail
  go_end0
  exact ⟨v2, rfl, H2.out, K2.out⟩
set_option maxRecDepth 100000 in
set_option maxHeartbeats 1600000 in
theorem expr_5 (n : Int) (m nm : ByteArray) (l : List Ex) (hX : ∀ x ∈ l, WrE x) (h3 : l.length ≤ 100) (b : Nat) (ts : List Tk) (v0 : Value) (W : World) (aa : Option Addr) (cap : Nat) (h : Wr b ts v0 W) (hA : DAt W (Off b v0) aa l.length (exsD l)) (hn : nameOk nm = true) (hmm : m.size = 0 ∨ nameOk m = true) (hl : ts.length + (refT m nm).length + (commas (tEs l)).length + 2 ≤ 4000000000000) :
    Calls Tryz.prog 124 #[.pointer (some ⟨b, 0, none⟩), .agg #[.int .i64 5, .int .i64 n, .string m, .string nm, .slice aa l.length cap]] W (WEnd b ts v0 W (refT m nm ++ kTk tLp :: (commas (tEs l) ++ [kTk tRp]))) := by
  have HX := hid hX
  clear hX
  obtain ⟨W0, hW0⟩ : ∃ W0, W0 = W.alloc (.cells #[.int .i64 5, .int .i64 n, .string m, .string nm, .slice aa l.length cap] 76) := ⟨_, rfl⟩
  obtain ⟨x0_0, x1_0, x2_0, x3_0, x4_0⟩ := box5 W (.int .i64 5) (.int .i64 n) (.string m) (.string nm) (.slice aa l.length cap) 76
  rw [← hW0] at x0_0 x1_0 x2_0 x3_0 x4_0
  have H0 : Hid (Wr b (ts ++ []) v0 W0) := by
    rw [hW0, List.append_nil]; exact h.alloc _
  have K0 : Hid (WK b v0 v0 W W0) := by rw [hW0]; exact WK.of_below (al1 _ _) b v0
  have hz0 : W0.heap.size = W.heap.size + 1 := by rw [hW0]; simp
  have hlt0 : b < W0.heap.size := H0.out.lt
  have hf0 : Hid (Off b v0 W.heap.size) := h.own (Nat.le_refl _)
  have hx0 : W.heap.size < W0.heap.size := by omega
  have DA0 : Hid (DAt W0 (Off b v0) aa l.length (exsD l)) := by rw [hW0]; exact hA.moves (Moves.of_below (al1 _ _) _)
  clear h hA
  generalize hkb : W.heap.size = kb at *
  go_enter Tryz.func124, Tryz.ntmps124
  go_upto_region 1 with fail
  rw [← hW0]
  clear hW0
  go_wp2_with fail
  refine (ref_w b m nm _ v0 W0 H0.out hn hmm (by simp; omega)).mono ?_
  rintro e W1 ⟨v1, rfl, hh, kk⟩
  have H1 : Hid (Wr b (ts ++ (refT m nm)) v1 W1) := by
    have := hh
    rw [List.append_assoc] at this
    exact this
  have K1 := hid (K0.out.trans kk)
  have hlt1 := hh.lt
  have hz1 := kk.size
  have DA1 := hid (DA0.out.moves kk.moves)
  have x0_1 := (kk.cell (off := 0) hx0 hf0.out).trans x0_0
  have x1_1 := (kk.cell (off := 1) hx0 hf0.out).trans x1_0
  have x2_1 := (kk.cell (off := 2) hx0 hf0.out).trans x2_0
  have x3_1 := (kk.cell (off := 3) hx0 hf0.out).trans x3_0
  have x4_1 := (kk.cell (off := 4) hx0 hf0.out).trans x4_0
  have hf1 := hid (kk.off hx0 hf0.out)
  have hx1 : kb < W1.heap.size := Nat.lt_of_lt_of_le hx0 kk.size
  clear hh kk
  clear x0_0 x1_0 x2_0 x3_0 x4_0
  go_wp2_with fail
  refine (args_w l HX.out b _ v1 W1 aa cap H1.out DA1.out (by simp; omega) h3).mono ?_
  rintro e W2 ⟨v2, rfl, hh, kk⟩
  have H2 : Hid (Wr b (ts ++ (refT m nm ++ kTk tLp :: (commas (tEs l) ++ [kTk tRp]))) v2 W2) := by
    have := hh
    rw [List.append_assoc] at this
    exact this
  have K2 := hid (K1.out.trans kk)
  have hlt2 := hh.lt
  have hz2 := kk.size
  have DA2 := hid (DA1.out.moves kk.moves)
  have x0_2 := (kk.cell (off := 0) hx1 hf1.out).trans x0_1
  have x1_2 := (kk.cell (off := 1) hx1 hf1.out).trans x1_1
  have x2_2 := (kk.cell (off := 2) hx1 hf1.out).trans x2_1
  have x3_2 := (kk.cell (off := 3) hx1 hf1.out).trans x3_1
  have x4_2 := (kk.cell (off := 4) hx1 hf1.out).trans x4_1
  have hf2 := hid (kk.off hx1 hf1.out)
  have hx2 : kb < W2.heap.size := Nat.lt_of_lt_of_le hx1 kk.size
  clear hh kk
  clear x0_1 x1_1 x2_1 x3_1 x4_1
  go_wp2_with fail
  go_end0
  exact ⟨v2, rfl, H2.out, K2.out⟩
set_option maxRecDepth 100000 in
set_option maxHeartbeats 1600000 in
theorem expr_6 (n : Int) (m nm : ByteArray) (x : Ex) (hX : WrE x) (b : Nat) (ts : List Tk) (v0 : Value) (W : World) (aa : Option Addr) (cap : Nat) (h : Wr b ts v0 W) (hA : DAt W (Off b v0) aa 1 (exsD [x])) (hl : ts.length + (tE x).length + 1 ≤ 4000000000000) :
    Calls Tryz.prog 124 #[.pointer (some ⟨b, 0, none⟩), .agg #[.int .i64 6, .int .i64 n, .string m, .string nm, .slice aa 1 cap]] W (WEnd b ts v0 W (kTk tNot :: tE x)) := by
  have HE : Hid (kTk tNot :: tE x = [pTk tNot] ++ tE x) := by
    show _ = _
    rw [pk (t := tNot) (by decide)]; rfl
  have HX := hid hX
  clear hX
  obtain ⟨W0, hW0⟩ : ∃ W0, W0 = W.alloc (.cells #[.int .i64 6, .int .i64 n, .string m, .string nm, .slice aa 1 cap] 76) := ⟨_, rfl⟩
  obtain ⟨x0_0, x1_0, x2_0, x3_0, x4_0⟩ := box5 W (.int .i64 6) (.int .i64 n) (.string m) (.string nm) (.slice aa 1 cap) 76
  rw [← hW0] at x0_0 x1_0 x2_0 x3_0 x4_0
  have H0 : Hid (Wr b (ts ++ []) v0 W0) := by
    rw [hW0, List.append_nil]; exact h.alloc _
  have K0 : Hid (WK b v0 v0 W W0) := by rw [hW0]; exact WK.of_below (al1 _ _) b v0
  have hz0 : W0.heap.size = W.heap.size + 1 := by rw [hW0]; simp
  have hlt0 : b < W0.heap.size := H0.out.lt
  have hf0 : Hid (Off b v0 W.heap.size) := h.own (Nat.le_refl _)
  have hx0 : W.heap.size < W0.heap.size := by omega
  have DA0 : Hid (DAt W0 (Off b v0) aa 1 (exsD [x])) := by rw [hW0]; exact hA.moves (Moves.of_below (al1 _ _) _)
  clear h hA
  generalize hkb : W.heap.size = kb at *
  go_enter Tryz.func124, Tryz.ntmps124
  go_upto_region 1 with fail
  rw [← hW0]
  clear hW0
  go_wp2_with fail
  refine (put1 b _ tNot _ v0 W0 (by omega) H0.out (by decide) (by simp; omega)).mono ?_
  rintro e W1 ⟨v1, rfl, hh, kk⟩
  have H1 : Hid (Wr b (ts ++ ([pTk tNot])) v1 W1) := by
    have := hh
    rw [List.append_assoc] at this
    exact this
  have K1 := hid (K0.out.trans kk)
  have hlt1 := hh.lt
  have hz1 := kk.size
  have DA1 := hid (DA0.out.moves kk.moves)
  have x0_1 := (kk.cell (off := 0) hx0 hf0.out).trans x0_0
  have x1_1 := (kk.cell (off := 1) hx0 hf0.out).trans x1_0
  have x2_1 := (kk.cell (off := 2) hx0 hf0.out).trans x2_0
  have x3_1 := (kk.cell (off := 3) hx0 hf0.out).trans x3_0
  have x4_1 := (kk.cell (off := 4) hx0 hf0.out).trans x4_0
  have hf1 := hid (kk.off hx0 hf0.out)
  have hx1 : kb < W1.heap.size := Nat.lt_of_lt_of_le hx0 kk.size
  clear hh kk
  clear x0_0 x1_0 x2_0 x3_0 x4_0
  obtain ⟨eb0, eo0, ea0, ec0, he0, hx0'⟩ := DA1.out.ex (l := [x]) 0 (by simp)
  subst he0
  have hx0 : ExAt W1 (Off b v1) eb0 (eo0 + 0 * 5) x ea0 ec0 := hx0'
  have q00 := hx0.c0
  have q01 := hx0.c1
  have q02 := hx0.c2
  have q03 := hx0.c3
  have q04 := hx0.c4
  rw [Nat.zero_mul, Nat.add_zero] at q00 q01 q02 q03 q04
  have hle0 := hx0.lt
  have HEx0 := hid hx0
  clear hx0 hx0'
  go_wp2_with fail
  refine (HX.out b _ v1 W1 ea0 ec0 H1.out HEx0.out.args HEx0.out.wm HEx0.out.wna (by simp; omega)).mono ?_
  rintro e W2 ⟨v2, rfl, hh, kk⟩
  have H2 : Hid (Wr b (ts ++ ([pTk tNot] ++ tE x)) v2 W2) := by
    have := hh
    rw [List.append_assoc] at this
    exact this
  have K2 := hid (K1.out.trans kk)
  have hlt2 := hh.lt
  have hz2 := kk.size
  have DA2 := hid (DA1.out.moves kk.moves)
  have x0_2 := (kk.cell (off := 0) hx1 hf1.out).trans x0_1
  have x1_2 := (kk.cell (off := 1) hx1 hf1.out).trans x1_1
  have x2_2 := (kk.cell (off := 2) hx1 hf1.out).trans x2_1
  have x3_2 := (kk.cell (off := 3) hx1 hf1.out).trans x3_1
  have x4_2 := (kk.cell (off := 4) hx1 hf1.out).trans x4_1
  have hf2 := hid (kk.off hx1 hf1.out)
  have hx2 : kb < W2.heap.size := Nat.lt_of_lt_of_le hx1 kk.size
  clear hh kk
  clear x0_1 x1_1 x2_1 x3_1 x4_1
  go_wp2_with fail
  go_end0
  exact ⟨v2, rfl, by rw [HE.out]; exact H2.out, K2.out⟩
set_option maxRecDepth 100000 in
set_option maxHeartbeats 1600000 in
theorem expr_7 (n : Int) (m nm : ByteArray) (x y : Ex) (hX : WrE x) (hY : WrE y) (b : Nat) (ts : List Tk) (v0 : Value) (W : World) (aa : Option Addr) (cap : Nat) (h : Wr b ts v0 W) (hA : DAt W (Off b v0) aa 2 (exsD [x, y])) (hl : ts.length + (tE x).length + (tE y).length + 3 ≤ 4000000000000) :
    Calls Tryz.prog 124 #[.pointer (some ⟨b, 0, none⟩), .agg #[.int .i64 7, .int .i64 n, .string m, .string nm, .slice aa 2 cap]] W (WEnd b ts v0 W (kTk tLp :: (tE x ++ opTk 7 :: (tE y ++ [kTk tRp])))) := by
  have HE : Hid (kTk tLp :: (tE x ++ opTk 7 :: (tE y ++ [kTk tRp])) = [pTk tLp] ++ tE x ++ [pTk ⟨#[38]⟩] ++ tE y ++ [pTk tRp]) := by
    show _ = _
    rw [pk (t := tLp) (by decide), pk (t := tRp) (by decide), pk (t := ⟨#[38]⟩) (by decide), show opTk 7 = kTk ⟨#[38]⟩ from rfl]; simp
  have HX := hid hX
  have HY := hid hY
  clear hX hY
  obtain ⟨W0, hW0⟩ : ∃ W0, W0 = W.alloc (.cells #[.int .i64 7, .int .i64 n, .string m, .string nm, .slice aa 2 cap] 76) := ⟨_, rfl⟩
  obtain ⟨x0_0, x1_0, x2_0, x3_0, x4_0⟩ := box5 W (.int .i64 7) (.int .i64 n) (.string m) (.string nm) (.slice aa 2 cap) 76
  rw [← hW0] at x0_0 x1_0 x2_0 x3_0 x4_0
  have H0 : Hid (Wr b (ts ++ []) v0 W0) := by
    rw [hW0, List.append_nil]; exact h.alloc _
  have K0 : Hid (WK b v0 v0 W W0) := by rw [hW0]; exact WK.of_below (al1 _ _) b v0
  have hz0 : W0.heap.size = W.heap.size + 1 := by rw [hW0]; simp
  have hlt0 : b < W0.heap.size := H0.out.lt
  have hf0 : Hid (Off b v0 W.heap.size) := h.own (Nat.le_refl _)
  have hx0 : W.heap.size < W0.heap.size := by omega
  have DA0 : Hid (DAt W0 (Off b v0) aa 2 (exsD [x, y])) := by rw [hW0]; exact hA.moves (Moves.of_below (al1 _ _) _)
  clear h hA
  generalize hkb : W.heap.size = kb at *
  go_enter Tryz.func124, Tryz.ntmps124
  go_upto_region 1 with fail
  rw [← hW0]
  clear hW0
  go_wp2_with fail
  refine (put1 b _ tLp _ v0 W0 (by omega) H0.out (by decide) (by simp; omega)).mono ?_
  rintro e W1 ⟨v1, rfl, hh, kk⟩
  have H1 : Hid (Wr b (ts ++ ([pTk tLp])) v1 W1) := by
    have := hh
    rw [List.append_assoc] at this
    exact this
  have K1 := hid (K0.out.trans kk)
  have hlt1 := hh.lt
  have hz1 := kk.size
  have DA1 := hid (DA0.out.moves kk.moves)
  have x0_1 := (kk.cell (off := 0) hx0 hf0.out).trans x0_0
  have x1_1 := (kk.cell (off := 1) hx0 hf0.out).trans x1_0
  have x2_1 := (kk.cell (off := 2) hx0 hf0.out).trans x2_0
  have x3_1 := (kk.cell (off := 3) hx0 hf0.out).trans x3_0
  have x4_1 := (kk.cell (off := 4) hx0 hf0.out).trans x4_0
  have hf1 := hid (kk.off hx0 hf0.out)
  have hx1 : kb < W1.heap.size := Nat.lt_of_lt_of_le hx0 kk.size
  clear hh kk
  clear x0_0 x1_0 x2_0 x3_0 x4_0
  obtain ⟨eb0, eo0, ea0, ec0, he0, hx0'⟩ := DA1.out.ex (l := [x, y]) 0 (by simp)
  subst he0
  have hx0 : ExAt W1 (Off b v1) eb0 (eo0 + 0 * 5) x ea0 ec0 := hx0'
  have q00 := hx0.c0
  have q01 := hx0.c1
  have q02 := hx0.c2
  have q03 := hx0.c3
  have q04 := hx0.c4
  rw [Nat.zero_mul, Nat.add_zero] at q00 q01 q02 q03 q04
  have hle0 := hx0.lt
  have HEx0 := hid hx0
  clear hx0 hx0'
  go_wp2_with fail
  refine (HX.out b _ v1 W1 ea0 ec0 H1.out HEx0.out.args HEx0.out.wm HEx0.out.wna (by simp; omega)).mono ?_
  rintro e W2 ⟨v2, rfl, hh, kk⟩
  have H2 : Hid (Wr b (ts ++ ([pTk tLp] ++ tE x)) v2 W2) := by
    have := hh
    rw [List.append_assoc] at this
    exact this
  have K2 := hid (K1.out.trans kk)
  have hlt2 := hh.lt
  have hz2 := kk.size
  have DA2 := hid (DA1.out.moves kk.moves)
  have x0_2 := (kk.cell (off := 0) hx1 hf1.out).trans x0_1
  have x1_2 := (kk.cell (off := 1) hx1 hf1.out).trans x1_1
  have x2_2 := (kk.cell (off := 2) hx1 hf1.out).trans x2_1
  have x3_2 := (kk.cell (off := 3) hx1 hf1.out).trans x3_1
  have x4_2 := (kk.cell (off := 4) hx1 hf1.out).trans x4_1
  have hf2 := hid (kk.off hx1 hf1.out)
  have hx2 : kb < W2.heap.size := Nat.lt_of_lt_of_le hx1 kk.size
  clear hh kk
  clear x0_1 x1_1 x2_1 x3_1 x4_1
  clear q00 q01 q02 q03 q04 hle0
  go_wp2_with fail
  refine (put1 b _ ⟨#[38]⟩ _ v2 W2 (by omega) H2.out (by decide) (by simp; omega)).mono ?_
  rintro e W3 ⟨v3, rfl, hh, kk⟩
  have H3 : Hid (Wr b (ts ++ ([pTk tLp] ++ tE x ++ [pTk ⟨#[38]⟩])) v3 W3) := by
    have := hh
    rw [List.append_assoc] at this
    exact this
  have K3 := hid (K2.out.trans kk)
  have hlt3 := hh.lt
  have hz3 := kk.size
  have DA3 := hid (DA2.out.moves kk.moves)
  have x0_3 := (kk.cell (off := 0) hx2 hf2.out).trans x0_2
  have x1_3 := (kk.cell (off := 1) hx2 hf2.out).trans x1_2
  have x2_3 := (kk.cell (off := 2) hx2 hf2.out).trans x2_2
  have x3_3 := (kk.cell (off := 3) hx2 hf2.out).trans x3_2
  have x4_3 := (kk.cell (off := 4) hx2 hf2.out).trans x4_2
  have hf3 := hid (kk.off hx2 hf2.out)
  have hx3 : kb < W3.heap.size := Nat.lt_of_lt_of_le hx2 kk.size
  clear hh kk
  clear x0_2 x1_2 x2_2 x3_2 x4_2
  obtain ⟨eb1, eo1, ea1, ec1, he1, hx1'⟩ := DA3.out.ex (l := [x, y]) 1 (by simp)
  obtain ⟨rfl, rfl⟩ : eb0 = eb1 ∧ eo0 = eo1 := by cases he1; exact ⟨rfl, rfl⟩
  have hx1 : ExAt W3 (Off b v3) eb0 (eo0 + 1 * 5) y ea1 ec1 := hx1'
  have q10 := hx1.c0
  have q11 := hx1.c1
  have q12 := hx1.c2
  have q13 := hx1.c3
  have q14 := hx1.c4
  rw [Nat.one_mul] at q10 q11 q12 q13 q14
  have hle1 := hx1.lt
  have HEx1 := hid hx1
  clear hx1 hx1'
  go_wp2_with fail
  refine (HY.out b _ v3 W3 ea1 ec1 H3.out HEx1.out.args HEx1.out.wm HEx1.out.wna (by simp; omega)).mono ?_
  rintro e W4 ⟨v4, rfl, hh, kk⟩
  have H4 : Hid (Wr b (ts ++ ([pTk tLp] ++ tE x ++ [pTk ⟨#[38]⟩] ++ tE y)) v4 W4) := by
    have := hh
    rw [List.append_assoc] at this
    exact this
  have K4 := hid (K3.out.trans kk)
  have hlt4 := hh.lt
  have hz4 := kk.size
  have DA4 := hid (DA3.out.moves kk.moves)
  have x0_4 := (kk.cell (off := 0) hx3 hf3.out).trans x0_3
  have x1_4 := (kk.cell (off := 1) hx3 hf3.out).trans x1_3
  have x2_4 := (kk.cell (off := 2) hx3 hf3.out).trans x2_3
  have x3_4 := (kk.cell (off := 3) hx3 hf3.out).trans x3_3
  have x4_4 := (kk.cell (off := 4) hx3 hf3.out).trans x4_3
  have hf4 := hid (kk.off hx3 hf3.out)
  have hx4 : kb < W4.heap.size := Nat.lt_of_lt_of_le hx3 kk.size
  clear hh kk
  clear x0_3 x1_3 x2_3 x3_3 x4_3
  go_wp2_with fail
  refine (put1 b _ tRp _ v4 W4 (by omega) H4.out (by decide) (by simp; omega)).mono ?_
  rintro e W5 ⟨v5, rfl, hh, kk⟩
  have H5 : Hid (Wr b (ts ++ ([pTk tLp] ++ tE x ++ [pTk ⟨#[38]⟩] ++ tE y ++ [pTk tRp])) v5 W5) := by
    have := hh
    rw [List.append_assoc] at this
    exact this
  have K5 := hid (K4.out.trans kk)
  have hlt5 := hh.lt
  have hz5 := kk.size
  have DA5 := hid (DA4.out.moves kk.moves)
  have x0_5 := (kk.cell (off := 0) hx4 hf4.out).trans x0_4
  have x1_5 := (kk.cell (off := 1) hx4 hf4.out).trans x1_4
  have x2_5 := (kk.cell (off := 2) hx4 hf4.out).trans x2_4
  have x3_5 := (kk.cell (off := 3) hx4 hf4.out).trans x3_4
  have x4_5 := (kk.cell (off := 4) hx4 hf4.out).trans x4_4
  have hf5 := hid (kk.off hx4 hf4.out)
  have hx5 : kb < W5.heap.size := Nat.lt_of_lt_of_le hx4 kk.size
  clear hh kk
  clear x0_4 x1_4 x2_4 x3_4 x4_4
  go_wp2_with fail
  go_end0
  exact ⟨v5, rfl, by rw [HE.out]; exact H5.out, K5.out⟩
set_option maxRecDepth 100000 in
set_option maxHeartbeats 1600000 in
theorem expr_8 (n : Int) (m nm : ByteArray) (x y : Ex) (hX : WrE x) (hY : WrE y) (b : Nat) (ts : List Tk) (v0 : Value) (W : World) (aa : Option Addr) (cap : Nat) (h : Wr b ts v0 W) (hA : DAt W (Off b v0) aa 2 (exsD [x, y])) (hl : ts.length + (tE x).length + (tE y).length + 3 ≤ 4000000000000) :
    Calls Tryz.prog 124 #[.pointer (some ⟨b, 0, none⟩), .agg #[.int .i64 8, .int .i64 n, .string m, .string nm, .slice aa 2 cap]] W (WEnd b ts v0 W (kTk tLp :: (tE x ++ opTk 8 :: (tE y ++ [kTk tRp])))) := by
  have HE : Hid (kTk tLp :: (tE x ++ opTk 8 :: (tE y ++ [kTk tRp])) = [pTk tLp] ++ tE x ++ [pTk ⟨#[124]⟩] ++ tE y ++ [pTk tRp]) := by
    show _ = _
    rw [pk (t := tLp) (by decide), pk (t := tRp) (by decide), pk (t := ⟨#[124]⟩) (by decide), show opTk 8 = kTk ⟨#[124]⟩ from rfl]; simp
  have HX := hid hX
  have HY := hid hY
  clear hX hY
  obtain ⟨W0, hW0⟩ : ∃ W0, W0 = W.alloc (.cells #[.int .i64 8, .int .i64 n, .string m, .string nm, .slice aa 2 cap] 76) := ⟨_, rfl⟩
  obtain ⟨x0_0, x1_0, x2_0, x3_0, x4_0⟩ := box5 W (.int .i64 8) (.int .i64 n) (.string m) (.string nm) (.slice aa 2 cap) 76
  rw [← hW0] at x0_0 x1_0 x2_0 x3_0 x4_0
  have H0 : Hid (Wr b (ts ++ []) v0 W0) := by
    rw [hW0, List.append_nil]; exact h.alloc _
  have K0 : Hid (WK b v0 v0 W W0) := by rw [hW0]; exact WK.of_below (al1 _ _) b v0
  have hz0 : W0.heap.size = W.heap.size + 1 := by rw [hW0]; simp
  have hlt0 : b < W0.heap.size := H0.out.lt
  have hf0 : Hid (Off b v0 W.heap.size) := h.own (Nat.le_refl _)
  have hx0 : W.heap.size < W0.heap.size := by omega
  have DA0 : Hid (DAt W0 (Off b v0) aa 2 (exsD [x, y])) := by rw [hW0]; exact hA.moves (Moves.of_below (al1 _ _) _)
  clear h hA
  generalize hkb : W.heap.size = kb at *
  go_enter Tryz.func124, Tryz.ntmps124
  go_upto_region 1 with fail
  rw [← hW0]
  clear hW0
  go_wp2_with fail
  refine (put1 b _ tLp _ v0 W0 (by omega) H0.out (by decide) (by simp; omega)).mono ?_
  rintro e W1 ⟨v1, rfl, hh, kk⟩
  have H1 : Hid (Wr b (ts ++ ([pTk tLp])) v1 W1) := by
    have := hh
    rw [List.append_assoc] at this
    exact this
  have K1 := hid (K0.out.trans kk)
  have hlt1 := hh.lt
  have hz1 := kk.size
  have DA1 := hid (DA0.out.moves kk.moves)
  have x0_1 := (kk.cell (off := 0) hx0 hf0.out).trans x0_0
  have x1_1 := (kk.cell (off := 1) hx0 hf0.out).trans x1_0
  have x2_1 := (kk.cell (off := 2) hx0 hf0.out).trans x2_0
  have x3_1 := (kk.cell (off := 3) hx0 hf0.out).trans x3_0
  have x4_1 := (kk.cell (off := 4) hx0 hf0.out).trans x4_0
  have hf1 := hid (kk.off hx0 hf0.out)
  have hx1 : kb < W1.heap.size := Nat.lt_of_lt_of_le hx0 kk.size
  clear hh kk
  clear x0_0 x1_0 x2_0 x3_0 x4_0
  obtain ⟨eb0, eo0, ea0, ec0, he0, hx0'⟩ := DA1.out.ex (l := [x, y]) 0 (by simp)
  subst he0
  have hx0 : ExAt W1 (Off b v1) eb0 (eo0 + 0 * 5) x ea0 ec0 := hx0'
  have q00 := hx0.c0
  have q01 := hx0.c1
  have q02 := hx0.c2
  have q03 := hx0.c3
  have q04 := hx0.c4
  rw [Nat.zero_mul, Nat.add_zero] at q00 q01 q02 q03 q04
  have hle0 := hx0.lt
  have HEx0 := hid hx0
  clear hx0 hx0'
  go_wp2_with fail
  refine (HX.out b _ v1 W1 ea0 ec0 H1.out HEx0.out.args HEx0.out.wm HEx0.out.wna (by simp; omega)).mono ?_
  rintro e W2 ⟨v2, rfl, hh, kk⟩
  have H2 : Hid (Wr b (ts ++ ([pTk tLp] ++ tE x)) v2 W2) := by
    have := hh
    rw [List.append_assoc] at this
    exact this
  have K2 := hid (K1.out.trans kk)
  have hlt2 := hh.lt
  have hz2 := kk.size
  have DA2 := hid (DA1.out.moves kk.moves)
  have x0_2 := (kk.cell (off := 0) hx1 hf1.out).trans x0_1
  have x1_2 := (kk.cell (off := 1) hx1 hf1.out).trans x1_1
  have x2_2 := (kk.cell (off := 2) hx1 hf1.out).trans x2_1
  have x3_2 := (kk.cell (off := 3) hx1 hf1.out).trans x3_1
  have x4_2 := (kk.cell (off := 4) hx1 hf1.out).trans x4_1
  have hf2 := hid (kk.off hx1 hf1.out)
  have hx2 : kb < W2.heap.size := Nat.lt_of_lt_of_le hx1 kk.size
  clear hh kk
  clear x0_1 x1_1 x2_1 x3_1 x4_1
  clear q00 q01 q02 q03 q04 hle0
  go_wp2_with fail
  refine (put1 b _ ⟨#[124]⟩ _ v2 W2 (by omega) H2.out (by decide) (by simp; omega)).mono ?_
  rintro e W3 ⟨v3, rfl, hh, kk⟩
  have H3 : Hid (Wr b (ts ++ ([pTk tLp] ++ tE x ++ [pTk ⟨#[124]⟩])) v3 W3) := by
    have := hh
    rw [List.append_assoc] at this
    exact this
  have K3 := hid (K2.out.trans kk)
  have hlt3 := hh.lt
  have hz3 := kk.size
  have DA3 := hid (DA2.out.moves kk.moves)
  have x0_3 := (kk.cell (off := 0) hx2 hf2.out).trans x0_2
  have x1_3 := (kk.cell (off := 1) hx2 hf2.out).trans x1_2
  have x2_3 := (kk.cell (off := 2) hx2 hf2.out).trans x2_2
  have x3_3 := (kk.cell (off := 3) hx2 hf2.out).trans x3_2
  have x4_3 := (kk.cell (off := 4) hx2 hf2.out).trans x4_2
  have hf3 := hid (kk.off hx2 hf2.out)
  have hx3 : kb < W3.heap.size := Nat.lt_of_lt_of_le hx2 kk.size
  clear hh kk
  clear x0_2 x1_2 x2_2 x3_2 x4_2
  obtain ⟨eb1, eo1, ea1, ec1, he1, hx1'⟩ := DA3.out.ex (l := [x, y]) 1 (by simp)
  obtain ⟨rfl, rfl⟩ : eb0 = eb1 ∧ eo0 = eo1 := by cases he1; exact ⟨rfl, rfl⟩
  have hx1 : ExAt W3 (Off b v3) eb0 (eo0 + 1 * 5) y ea1 ec1 := hx1'
  have q10 := hx1.c0
  have q11 := hx1.c1
  have q12 := hx1.c2
  have q13 := hx1.c3
  have q14 := hx1.c4
  rw [Nat.one_mul] at q10 q11 q12 q13 q14
  have hle1 := hx1.lt
  have HEx1 := hid hx1
  clear hx1 hx1'
  go_wp2_with fail
  refine (HY.out b _ v3 W3 ea1 ec1 H3.out HEx1.out.args HEx1.out.wm HEx1.out.wna (by simp; omega)).mono ?_
  rintro e W4 ⟨v4, rfl, hh, kk⟩
  have H4 : Hid (Wr b (ts ++ ([pTk tLp] ++ tE x ++ [pTk ⟨#[124]⟩] ++ tE y)) v4 W4) := by
    have := hh
    rw [List.append_assoc] at this
    exact this
  have K4 := hid (K3.out.trans kk)
  have hlt4 := hh.lt
  have hz4 := kk.size
  have DA4 := hid (DA3.out.moves kk.moves)
  have x0_4 := (kk.cell (off := 0) hx3 hf3.out).trans x0_3
  have x1_4 := (kk.cell (off := 1) hx3 hf3.out).trans x1_3
  have x2_4 := (kk.cell (off := 2) hx3 hf3.out).trans x2_3
  have x3_4 := (kk.cell (off := 3) hx3 hf3.out).trans x3_3
  have x4_4 := (kk.cell (off := 4) hx3 hf3.out).trans x4_3
  have hf4 := hid (kk.off hx3 hf3.out)
  have hx4 : kb < W4.heap.size := Nat.lt_of_lt_of_le hx3 kk.size
  clear hh kk
  clear x0_3 x1_3 x2_3 x3_3 x4_3
  go_wp2_with fail
  refine (put1 b _ tRp _ v4 W4 (by omega) H4.out (by decide) (by simp; omega)).mono ?_
  rintro e W5 ⟨v5, rfl, hh, kk⟩
  have H5 : Hid (Wr b (ts ++ ([pTk tLp] ++ tE x ++ [pTk ⟨#[124]⟩] ++ tE y ++ [pTk tRp])) v5 W5) := by
    have := hh
    rw [List.append_assoc] at this
    exact this
  have K5 := hid (K4.out.trans kk)
  have hlt5 := hh.lt
  have hz5 := kk.size
  have DA5 := hid (DA4.out.moves kk.moves)
  have x0_5 := (kk.cell (off := 0) hx4 hf4.out).trans x0_4
  have x1_5 := (kk.cell (off := 1) hx4 hf4.out).trans x1_4
  have x2_5 := (kk.cell (off := 2) hx4 hf4.out).trans x2_4
  have x3_5 := (kk.cell (off := 3) hx4 hf4.out).trans x3_4
  have x4_5 := (kk.cell (off := 4) hx4 hf4.out).trans x4_4
  have hf5 := hid (kk.off hx4 hf4.out)
  have hx5 : kb < W5.heap.size := Nat.lt_of_lt_of_le hx4 kk.size
  clear hh kk
  clear x0_4 x1_4 x2_4 x3_4 x4_4
  go_wp2_with fail
  go_end0
  exact ⟨v5, rfl, by rw [HE.out]; exact H5.out, K5.out⟩
set_option maxRecDepth 100000 in
set_option maxHeartbeats 1600000 in
theorem expr_9 (n : Int) (m nm : ByteArray) (x y : Ex) (hX : WrE x) (hY : WrE y) (b : Nat) (ts : List Tk) (v0 : Value) (W : World) (aa : Option Addr) (cap : Nat) (h : Wr b ts v0 W) (hA : DAt W (Off b v0) aa 2 (exsD [x, y])) (hl : ts.length + (tE x).length + (tE y).length + 3 ≤ 4000000000000) :
    Calls Tryz.prog 124 #[.pointer (some ⟨b, 0, none⟩), .agg #[.int .i64 9, .int .i64 n, .string m, .string nm, .slice aa 2 cap]] W (WEnd b ts v0 W (kTk tLp :: (tE x ++ opTk 9 :: (tE y ++ [kTk tRp])))) := by
  have HE : Hid (kTk tLp :: (tE x ++ opTk 9 :: (tE y ++ [kTk tRp])) = [pTk tLp] ++ tE x ++ [pTk ⟨#[43]⟩] ++ tE y ++ [pTk tRp]) := by
    show _ = _
    rw [pk (t := tLp) (by decide), pk (t := tRp) (by decide), pk (t := ⟨#[43]⟩) (by decide), show opTk 9 = kTk ⟨#[43]⟩ from rfl]; simp
  have HX := hid hX
  have HY := hid hY
  clear hX hY
  obtain ⟨W0, hW0⟩ : ∃ W0, W0 = W.alloc (.cells #[.int .i64 9, .int .i64 n, .string m, .string nm, .slice aa 2 cap] 76) := ⟨_, rfl⟩
  obtain ⟨x0_0, x1_0, x2_0, x3_0, x4_0⟩ := box5 W (.int .i64 9) (.int .i64 n) (.string m) (.string nm) (.slice aa 2 cap) 76
  rw [← hW0] at x0_0 x1_0 x2_0 x3_0 x4_0
  have H0 : Hid (Wr b (ts ++ []) v0 W0) := by
    rw [hW0, List.append_nil]; exact h.alloc _
  have K0 : Hid (WK b v0 v0 W W0) := by rw [hW0]; exact WK.of_below (al1 _ _) b v0
  have hz0 : W0.heap.size = W.heap.size + 1 := by rw [hW0]; simp
  have hlt0 : b < W0.heap.size := H0.out.lt
  have hf0 : Hid (Off b v0 W.heap.size) := h.own (Nat.le_refl _)
  have hx0 : W.heap.size < W0.heap.size := by omega
  have DA0 : Hid (DAt W0 (Off b v0) aa 2 (exsD [x, y])) := by rw [hW0]; exact hA.moves (Moves.of_below (al1 _ _) _)
  clear h hA
  generalize hkb : W.heap.size = kb at *
  go_enter Tryz.func124, Tryz.ntmps124
  go_upto_region 1 with fail
  rw [← hW0]
  clear hW0
  go_wp2_with fail
  refine (put1 b _ tLp _ v0 W0 (by omega) H0.out (by decide) (by simp; omega)).mono ?_
  rintro e W1 ⟨v1, rfl, hh, kk⟩
  have H1 : Hid (Wr b (ts ++ ([pTk tLp])) v1 W1) := by
    have := hh
    rw [List.append_assoc] at this
    exact this
  have K1 := hid (K0.out.trans kk)
  have hlt1 := hh.lt
  have hz1 := kk.size
  have DA1 := hid (DA0.out.moves kk.moves)
  have x0_1 := (kk.cell (off := 0) hx0 hf0.out).trans x0_0
  have x1_1 := (kk.cell (off := 1) hx0 hf0.out).trans x1_0
  have x2_1 := (kk.cell (off := 2) hx0 hf0.out).trans x2_0
  have x3_1 := (kk.cell (off := 3) hx0 hf0.out).trans x3_0
  have x4_1 := (kk.cell (off := 4) hx0 hf0.out).trans x4_0
  have hf1 := hid (kk.off hx0 hf0.out)
  have hx1 : kb < W1.heap.size := Nat.lt_of_lt_of_le hx0 kk.size
  clear hh kk
  clear x0_0 x1_0 x2_0 x3_0 x4_0
  obtain ⟨eb0, eo0, ea0, ec0, he0, hx0'⟩ := DA1.out.ex (l := [x, y]) 0 (by simp)
  subst he0
  have hx0 : ExAt W1 (Off b v1) eb0 (eo0 + 0 * 5) x ea0 ec0 := hx0'
  have q00 := hx0.c0
  have q01 := hx0.c1
  have q02 := hx0.c2
  have q03 := hx0.c3
  have q04 := hx0.c4
  rw [Nat.zero_mul, Nat.add_zero] at q00 q01 q02 q03 q04
  have hle0 := hx0.lt
  have HEx0 := hid hx0
  clear hx0 hx0'
  go_wp2_with fail
  refine (HX.out b _ v1 W1 ea0 ec0 H1.out HEx0.out.args HEx0.out.wm HEx0.out.wna (by simp; omega)).mono ?_
  rintro e W2 ⟨v2, rfl, hh, kk⟩
  have H2 : Hid (Wr b (ts ++ ([pTk tLp] ++ tE x)) v2 W2) := by
    have := hh
    rw [List.append_assoc] at this
    exact this
  have K2 := hid (K1.out.trans kk)
  have hlt2 := hh.lt
  have hz2 := kk.size
  have DA2 := hid (DA1.out.moves kk.moves)
  have x0_2 := (kk.cell (off := 0) hx1 hf1.out).trans x0_1
  have x1_2 := (kk.cell (off := 1) hx1 hf1.out).trans x1_1
  have x2_2 := (kk.cell (off := 2) hx1 hf1.out).trans x2_1
  have x3_2 := (kk.cell (off := 3) hx1 hf1.out).trans x3_1
  have x4_2 := (kk.cell (off := 4) hx1 hf1.out).trans x4_1
  have hf2 := hid (kk.off hx1 hf1.out)
  have hx2 : kb < W2.heap.size := Nat.lt_of_lt_of_le hx1 kk.size
  clear hh kk
  clear x0_1 x1_1 x2_1 x3_1 x4_1
  clear q00 q01 q02 q03 q04 hle0
  go_wp2_with fail
  refine (put1 b _ ⟨#[43]⟩ _ v2 W2 (by omega) H2.out (by decide) (by simp; omega)).mono ?_
  rintro e W3 ⟨v3, rfl, hh, kk⟩
  have H3 : Hid (Wr b (ts ++ ([pTk tLp] ++ tE x ++ [pTk ⟨#[43]⟩])) v3 W3) := by
    have := hh
    rw [List.append_assoc] at this
    exact this
  have K3 := hid (K2.out.trans kk)
  have hlt3 := hh.lt
  have hz3 := kk.size
  have DA3 := hid (DA2.out.moves kk.moves)
  have x0_3 := (kk.cell (off := 0) hx2 hf2.out).trans x0_2
  have x1_3 := (kk.cell (off := 1) hx2 hf2.out).trans x1_2
  have x2_3 := (kk.cell (off := 2) hx2 hf2.out).trans x2_2
  have x3_3 := (kk.cell (off := 3) hx2 hf2.out).trans x3_2
  have x4_3 := (kk.cell (off := 4) hx2 hf2.out).trans x4_2
  have hf3 := hid (kk.off hx2 hf2.out)
  have hx3 : kb < W3.heap.size := Nat.lt_of_lt_of_le hx2 kk.size
  clear hh kk
  clear x0_2 x1_2 x2_2 x3_2 x4_2
  obtain ⟨eb1, eo1, ea1, ec1, he1, hx1'⟩ := DA3.out.ex (l := [x, y]) 1 (by simp)
  obtain ⟨rfl, rfl⟩ : eb0 = eb1 ∧ eo0 = eo1 := by cases he1; exact ⟨rfl, rfl⟩
  have hx1 : ExAt W3 (Off b v3) eb0 (eo0 + 1 * 5) y ea1 ec1 := hx1'
  have q10 := hx1.c0
  have q11 := hx1.c1
  have q12 := hx1.c2
  have q13 := hx1.c3
  have q14 := hx1.c4
  rw [Nat.one_mul] at q10 q11 q12 q13 q14
  have hle1 := hx1.lt
  have HEx1 := hid hx1
  clear hx1 hx1'
  go_wp2_with fail
  refine (HY.out b _ v3 W3 ea1 ec1 H3.out HEx1.out.args HEx1.out.wm HEx1.out.wna (by simp; omega)).mono ?_
  rintro e W4 ⟨v4, rfl, hh, kk⟩
  have H4 : Hid (Wr b (ts ++ ([pTk tLp] ++ tE x ++ [pTk ⟨#[43]⟩] ++ tE y)) v4 W4) := by
    have := hh
    rw [List.append_assoc] at this
    exact this
  have K4 := hid (K3.out.trans kk)
  have hlt4 := hh.lt
  have hz4 := kk.size
  have DA4 := hid (DA3.out.moves kk.moves)
  have x0_4 := (kk.cell (off := 0) hx3 hf3.out).trans x0_3
  have x1_4 := (kk.cell (off := 1) hx3 hf3.out).trans x1_3
  have x2_4 := (kk.cell (off := 2) hx3 hf3.out).trans x2_3
  have x3_4 := (kk.cell (off := 3) hx3 hf3.out).trans x3_3
  have x4_4 := (kk.cell (off := 4) hx3 hf3.out).trans x4_3
  have hf4 := hid (kk.off hx3 hf3.out)
  have hx4 : kb < W4.heap.size := Nat.lt_of_lt_of_le hx3 kk.size
  clear hh kk
  clear x0_3 x1_3 x2_3 x3_3 x4_3
  go_wp2_with fail
  refine (put1 b _ tRp _ v4 W4 (by omega) H4.out (by decide) (by simp; omega)).mono ?_
  rintro e W5 ⟨v5, rfl, hh, kk⟩
  have H5 : Hid (Wr b (ts ++ ([pTk tLp] ++ tE x ++ [pTk ⟨#[43]⟩] ++ tE y ++ [pTk tRp])) v5 W5) := by
    have := hh
    rw [List.append_assoc] at this
    exact this
  have K5 := hid (K4.out.trans kk)
  have hlt5 := hh.lt
  have hz5 := kk.size
  have DA5 := hid (DA4.out.moves kk.moves)
  have x0_5 := (kk.cell (off := 0) hx4 hf4.out).trans x0_4
  have x1_5 := (kk.cell (off := 1) hx4 hf4.out).trans x1_4
  have x2_5 := (kk.cell (off := 2) hx4 hf4.out).trans x2_4
  have x3_5 := (kk.cell (off := 3) hx4 hf4.out).trans x3_4
  have x4_5 := (kk.cell (off := 4) hx4 hf4.out).trans x4_4
  have hf5 := hid (kk.off hx4 hf4.out)
  have hx5 : kb < W5.heap.size := Nat.lt_of_lt_of_le hx4 kk.size
  clear hh kk
  clear x0_4 x1_4 x2_4 x3_4 x4_4
  go_wp2_with fail
  go_end0
  exact ⟨v5, rfl, by rw [HE.out]; exact H5.out, K5.out⟩
set_option maxRecDepth 100000 in
set_option maxHeartbeats 1600000 in
theorem expr_10 (n : Int) (m nm : ByteArray) (x y : Ex) (hX : WrE x) (hY : WrE y) (b : Nat) (ts : List Tk) (v0 : Value) (W : World) (aa : Option Addr) (cap : Nat) (h : Wr b ts v0 W) (hA : DAt W (Off b v0) aa 2 (exsD [x, y])) (hl : ts.length + (tE x).length + (tE y).length + 3 ≤ 4000000000000) :
    Calls Tryz.prog 124 #[.pointer (some ⟨b, 0, none⟩), .agg #[.int .i64 10, .int .i64 n, .string m, .string nm, .slice aa 2 cap]] W (WEnd b ts v0 W (kTk tLp :: (tE x ++ opTk 10 :: (tE y ++ [kTk tRp])))) := by
  have HE : Hid (kTk tLp :: (tE x ++ opTk 10 :: (tE y ++ [kTk tRp])) = [pTk tLp] ++ tE x ++ [pTk ⟨#[45]⟩] ++ tE y ++ [pTk tRp]) := by
    show _ = _
    rw [pk (t := tLp) (by decide), pk (t := tRp) (by decide), pk (t := ⟨#[45]⟩) (by decide), show opTk 10 = kTk ⟨#[45]⟩ from rfl]; simp
  have HX := hid hX
  have HY := hid hY
  clear hX hY
  obtain ⟨W0, hW0⟩ : ∃ W0, W0 = W.alloc (.cells #[.int .i64 10, .int .i64 n, .string m, .string nm, .slice aa 2 cap] 76) := ⟨_, rfl⟩
  obtain ⟨x0_0, x1_0, x2_0, x3_0, x4_0⟩ := box5 W (.int .i64 10) (.int .i64 n) (.string m) (.string nm) (.slice aa 2 cap) 76
  rw [← hW0] at x0_0 x1_0 x2_0 x3_0 x4_0
  have H0 : Hid (Wr b (ts ++ []) v0 W0) := by
    rw [hW0, List.append_nil]; exact h.alloc _
  have K0 : Hid (WK b v0 v0 W W0) := by rw [hW0]; exact WK.of_below (al1 _ _) b v0
  have hz0 : W0.heap.size = W.heap.size + 1 := by rw [hW0]; simp
  have hlt0 : b < W0.heap.size := H0.out.lt
  have hf0 : Hid (Off b v0 W.heap.size) := h.own (Nat.le_refl _)
  have hx0 : W.heap.size < W0.heap.size := by omega
  have DA0 : Hid (DAt W0 (Off b v0) aa 2 (exsD [x, y])) := by rw [hW0]; exact hA.moves (Moves.of_below (al1 _ _) _)
  clear h hA
  generalize hkb : W.heap.size = kb at *
  go_enter Tryz.func124, Tryz.ntmps124
  go_upto_region 1 with fail
  rw [← hW0]
  clear hW0
  go_wp2_with fail
  refine (put1 b _ tLp _ v0 W0 (by omega) H0.out (by decide) (by simp; omega)).mono ?_
  rintro e W1 ⟨v1, rfl, hh, kk⟩
  have H1 : Hid (Wr b (ts ++ ([pTk tLp])) v1 W1) := by
    have := hh
    rw [List.append_assoc] at this
    exact this
  have K1 := hid (K0.out.trans kk)
  have hlt1 := hh.lt
  have hz1 := kk.size
  have DA1 := hid (DA0.out.moves kk.moves)
  have x0_1 := (kk.cell (off := 0) hx0 hf0.out).trans x0_0
  have x1_1 := (kk.cell (off := 1) hx0 hf0.out).trans x1_0
  have x2_1 := (kk.cell (off := 2) hx0 hf0.out).trans x2_0
  have x3_1 := (kk.cell (off := 3) hx0 hf0.out).trans x3_0
  have x4_1 := (kk.cell (off := 4) hx0 hf0.out).trans x4_0
  have hf1 := hid (kk.off hx0 hf0.out)
  have hx1 : kb < W1.heap.size := Nat.lt_of_lt_of_le hx0 kk.size
  clear hh kk
  clear x0_0 x1_0 x2_0 x3_0 x4_0
  obtain ⟨eb0, eo0, ea0, ec0, he0, hx0'⟩ := DA1.out.ex (l := [x, y]) 0 (by simp)
  subst he0
  have hx0 : ExAt W1 (Off b v1) eb0 (eo0 + 0 * 5) x ea0 ec0 := hx0'
  have q00 := hx0.c0
  have q01 := hx0.c1
  have q02 := hx0.c2
  have q03 := hx0.c3
  have q04 := hx0.c4
  rw [Nat.zero_mul, Nat.add_zero] at q00 q01 q02 q03 q04
  have hle0 := hx0.lt
  have HEx0 := hid hx0
  clear hx0 hx0'
  go_wp2_with fail
  refine (HX.out b _ v1 W1 ea0 ec0 H1.out HEx0.out.args HEx0.out.wm HEx0.out.wna (by simp; omega)).mono ?_
  rintro e W2 ⟨v2, rfl, hh, kk⟩
  have H2 : Hid (Wr b (ts ++ ([pTk tLp] ++ tE x)) v2 W2) := by
    have := hh
    rw [List.append_assoc] at this
    exact this
  have K2 := hid (K1.out.trans kk)
  have hlt2 := hh.lt
  have hz2 := kk.size
  have DA2 := hid (DA1.out.moves kk.moves)
  have x0_2 := (kk.cell (off := 0) hx1 hf1.out).trans x0_1
  have x1_2 := (kk.cell (off := 1) hx1 hf1.out).trans x1_1
  have x2_2 := (kk.cell (off := 2) hx1 hf1.out).trans x2_1
  have x3_2 := (kk.cell (off := 3) hx1 hf1.out).trans x3_1
  have x4_2 := (kk.cell (off := 4) hx1 hf1.out).trans x4_1
  have hf2 := hid (kk.off hx1 hf1.out)
  have hx2 : kb < W2.heap.size := Nat.lt_of_lt_of_le hx1 kk.size
  clear hh kk
  clear x0_1 x1_1 x2_1 x3_1 x4_1
  clear q00 q01 q02 q03 q04 hle0
  go_wp2_with fail
  refine (put1 b _ ⟨#[45]⟩ _ v2 W2 (by omega) H2.out (by decide) (by simp; omega)).mono ?_
  rintro e W3 ⟨v3, rfl, hh, kk⟩
  have H3 : Hid (Wr b (ts ++ ([pTk tLp] ++ tE x ++ [pTk ⟨#[45]⟩])) v3 W3) := by
    have := hh
    rw [List.append_assoc] at this
    exact this
  have K3 := hid (K2.out.trans kk)
  have hlt3 := hh.lt
  have hz3 := kk.size
  have DA3 := hid (DA2.out.moves kk.moves)
  have x0_3 := (kk.cell (off := 0) hx2 hf2.out).trans x0_2
  have x1_3 := (kk.cell (off := 1) hx2 hf2.out).trans x1_2
  have x2_3 := (kk.cell (off := 2) hx2 hf2.out).trans x2_2
  have x3_3 := (kk.cell (off := 3) hx2 hf2.out).trans x3_2
  have x4_3 := (kk.cell (off := 4) hx2 hf2.out).trans x4_2
  have hf3 := hid (kk.off hx2 hf2.out)
  have hx3 : kb < W3.heap.size := Nat.lt_of_lt_of_le hx2 kk.size
  clear hh kk
  clear x0_2 x1_2 x2_2 x3_2 x4_2
  obtain ⟨eb1, eo1, ea1, ec1, he1, hx1'⟩ := DA3.out.ex (l := [x, y]) 1 (by simp)
  obtain ⟨rfl, rfl⟩ : eb0 = eb1 ∧ eo0 = eo1 := by cases he1; exact ⟨rfl, rfl⟩
  have hx1 : ExAt W3 (Off b v3) eb0 (eo0 + 1 * 5) y ea1 ec1 := hx1'
  have q10 := hx1.c0
  have q11 := hx1.c1
  have q12 := hx1.c2
  have q13 := hx1.c3
  have q14 := hx1.c4
  rw [Nat.one_mul] at q10 q11 q12 q13 q14
  have hle1 := hx1.lt
  have HEx1 := hid hx1
  clear hx1 hx1'
  go_wp2_with fail
  refine (HY.out b _ v3 W3 ea1 ec1 H3.out HEx1.out.args HEx1.out.wm HEx1.out.wna (by simp; omega)).mono ?_
  rintro e W4 ⟨v4, rfl, hh, kk⟩
  have H4 : Hid (Wr b (ts ++ ([pTk tLp] ++ tE x ++ [pTk ⟨#[45]⟩] ++ tE y)) v4 W4) := by
    have := hh
    rw [List.append_assoc] at this
    exact this
  have K4 := hid (K3.out.trans kk)
  have hlt4 := hh.lt
  have hz4 := kk.size
  have DA4 := hid (DA3.out.moves kk.moves)
  have x0_4 := (kk.cell (off := 0) hx3 hf3.out).trans x0_3
  have x1_4 := (kk.cell (off := 1) hx3 hf3.out).trans x1_3
  have x2_4 := (kk.cell (off := 2) hx3 hf3.out).trans x2_3
  have x3_4 := (kk.cell (off := 3) hx3 hf3.out).trans x3_3
  have x4_4 := (kk.cell (off := 4) hx3 hf3.out).trans x4_3
  have hf4 := hid (kk.off hx3 hf3.out)
  have hx4 : kb < W4.heap.size := Nat.lt_of_lt_of_le hx3 kk.size
  clear hh kk
  clear x0_3 x1_3 x2_3 x3_3 x4_3
  go_wp2_with fail
  refine (put1 b _ tRp _ v4 W4 (by omega) H4.out (by decide) (by simp; omega)).mono ?_
  rintro e W5 ⟨v5, rfl, hh, kk⟩
  have H5 : Hid (Wr b (ts ++ ([pTk tLp] ++ tE x ++ [pTk ⟨#[45]⟩] ++ tE y ++ [pTk tRp])) v5 W5) := by
    have := hh
    rw [List.append_assoc] at this
    exact this
  have K5 := hid (K4.out.trans kk)
  have hlt5 := hh.lt
  have hz5 := kk.size
  have DA5 := hid (DA4.out.moves kk.moves)
  have x0_5 := (kk.cell (off := 0) hx4 hf4.out).trans x0_4
  have x1_5 := (kk.cell (off := 1) hx4 hf4.out).trans x1_4
  have x2_5 := (kk.cell (off := 2) hx4 hf4.out).trans x2_4
  have x3_5 := (kk.cell (off := 3) hx4 hf4.out).trans x3_4
  have x4_5 := (kk.cell (off := 4) hx4 hf4.out).trans x4_4
  have hf5 := hid (kk.off hx4 hf4.out)
  have hx5 : kb < W5.heap.size := Nat.lt_of_lt_of_le hx4 kk.size
  clear hh kk
  clear x0_4 x1_4 x2_4 x3_4 x4_4
  go_wp2_with fail
  go_end0
  exact ⟨v5, rfl, by rw [HE.out]; exact H5.out, K5.out⟩
set_option maxRecDepth 100000 in
set_option maxHeartbeats 1600000 in
theorem expr_11 (n : Int) (m nm : ByteArray) (x y : Ex) (hX : WrE x) (hY : WrE y) (b : Nat) (ts : List Tk) (v0 : Value) (W : World) (aa : Option Addr) (cap : Nat) (h : Wr b ts v0 W) (hA : DAt W (Off b v0) aa 2 (exsD [x, y])) (hl : ts.length + (tE x).length + (tE y).length + 3 ≤ 4000000000000) :
    Calls Tryz.prog 124 #[.pointer (some ⟨b, 0, none⟩), .agg #[.int .i64 11, .int .i64 n, .string m, .string nm, .slice aa 2 cap]] W (WEnd b ts v0 W (kTk tLp :: (tE x ++ opTk 11 :: (tE y ++ [kTk tRp])))) := by
  have HE : Hid (kTk tLp :: (tE x ++ opTk 11 :: (tE y ++ [kTk tRp])) = [pTk tLp] ++ tE x ++ [pTk ⟨#[42]⟩] ++ tE y ++ [pTk tRp]) := by
    show _ = _
    rw [pk (t := tLp) (by decide), pk (t := tRp) (by decide), pk (t := ⟨#[42]⟩) (by decide), show opTk 11 = kTk ⟨#[42]⟩ from rfl]; simp
  have HX := hid hX
  have HY := hid hY
  clear hX hY
  obtain ⟨W0, hW0⟩ : ∃ W0, W0 = W.alloc (.cells #[.int .i64 11, .int .i64 n, .string m, .string nm, .slice aa 2 cap] 76) := ⟨_, rfl⟩
  obtain ⟨x0_0, x1_0, x2_0, x3_0, x4_0⟩ := box5 W (.int .i64 11) (.int .i64 n) (.string m) (.string nm) (.slice aa 2 cap) 76
  rw [← hW0] at x0_0 x1_0 x2_0 x3_0 x4_0
  have H0 : Hid (Wr b (ts ++ []) v0 W0) := by
    rw [hW0, List.append_nil]; exact h.alloc _
  have K0 : Hid (WK b v0 v0 W W0) := by rw [hW0]; exact WK.of_below (al1 _ _) b v0
  have hz0 : W0.heap.size = W.heap.size + 1 := by rw [hW0]; simp
  have hlt0 : b < W0.heap.size := H0.out.lt
  have hf0 : Hid (Off b v0 W.heap.size) := h.own (Nat.le_refl _)
  have hx0 : W.heap.size < W0.heap.size := by omega
  have DA0 : Hid (DAt W0 (Off b v0) aa 2 (exsD [x, y])) := by rw [hW0]; exact hA.moves (Moves.of_below (al1 _ _) _)
  clear h hA
  generalize hkb : W.heap.size = kb at *
  go_enter Tryz.func124, Tryz.ntmps124
  go_upto_region 1 with fail
  rw [← hW0]
  clear hW0
  go_wp2_with fail
  refine (put1 b _ tLp _ v0 W0 (by omega) H0.out (by decide) (by simp; omega)).mono ?_
  rintro e W1 ⟨v1, rfl, hh, kk⟩
  have H1 : Hid (Wr b (ts ++ ([pTk tLp])) v1 W1) := by
    have := hh
    rw [List.append_assoc] at this
    exact this
  have K1 := hid (K0.out.trans kk)
  have hlt1 := hh.lt
  have hz1 := kk.size
  have DA1 := hid (DA0.out.moves kk.moves)
  have x0_1 := (kk.cell (off := 0) hx0 hf0.out).trans x0_0
  have x1_1 := (kk.cell (off := 1) hx0 hf0.out).trans x1_0
  have x2_1 := (kk.cell (off := 2) hx0 hf0.out).trans x2_0
  have x3_1 := (kk.cell (off := 3) hx0 hf0.out).trans x3_0
  have x4_1 := (kk.cell (off := 4) hx0 hf0.out).trans x4_0
  have hf1 := hid (kk.off hx0 hf0.out)
  have hx1 : kb < W1.heap.size := Nat.lt_of_lt_of_le hx0 kk.size
  clear hh kk
  clear x0_0 x1_0 x2_0 x3_0 x4_0
  obtain ⟨eb0, eo0, ea0, ec0, he0, hx0'⟩ := DA1.out.ex (l := [x, y]) 0 (by simp)
  subst he0
  have hx0 : ExAt W1 (Off b v1) eb0 (eo0 + 0 * 5) x ea0 ec0 := hx0'
  have q00 := hx0.c0
  have q01 := hx0.c1
  have q02 := hx0.c2
  have q03 := hx0.c3
  have q04 := hx0.c4
  rw [Nat.zero_mul, Nat.add_zero] at q00 q01 q02 q03 q04
  have hle0 := hx0.lt
  have HEx0 := hid hx0
  clear hx0 hx0'
  go_wp2_with fail
  refine (HX.out b _ v1 W1 ea0 ec0 H1.out HEx0.out.args HEx0.out.wm HEx0.out.wna (by simp; omega)).mono ?_
  rintro e W2 ⟨v2, rfl, hh, kk⟩
  have H2 : Hid (Wr b (ts ++ ([pTk tLp] ++ tE x)) v2 W2) := by
    have := hh
    rw [List.append_assoc] at this
    exact this
  have K2 := hid (K1.out.trans kk)
  have hlt2 := hh.lt
  have hz2 := kk.size
  have DA2 := hid (DA1.out.moves kk.moves)
  have x0_2 := (kk.cell (off := 0) hx1 hf1.out).trans x0_1
  have x1_2 := (kk.cell (off := 1) hx1 hf1.out).trans x1_1
  have x2_2 := (kk.cell (off := 2) hx1 hf1.out).trans x2_1
  have x3_2 := (kk.cell (off := 3) hx1 hf1.out).trans x3_1
  have x4_2 := (kk.cell (off := 4) hx1 hf1.out).trans x4_1
  have hf2 := hid (kk.off hx1 hf1.out)
  have hx2 : kb < W2.heap.size := Nat.lt_of_lt_of_le hx1 kk.size
  clear hh kk
  clear x0_1 x1_1 x2_1 x3_1 x4_1
  clear q00 q01 q02 q03 q04 hle0
  go_wp2_with fail
  refine (put1 b _ ⟨#[42]⟩ _ v2 W2 (by omega) H2.out (by decide) (by simp; omega)).mono ?_
  rintro e W3 ⟨v3, rfl, hh, kk⟩
  have H3 : Hid (Wr b (ts ++ ([pTk tLp] ++ tE x ++ [pTk ⟨#[42]⟩])) v3 W3) := by
    have := hh
    rw [List.append_assoc] at this
    exact this
  have K3 := hid (K2.out.trans kk)
  have hlt3 := hh.lt
  have hz3 := kk.size
  have DA3 := hid (DA2.out.moves kk.moves)
  have x0_3 := (kk.cell (off := 0) hx2 hf2.out).trans x0_2
  have x1_3 := (kk.cell (off := 1) hx2 hf2.out).trans x1_2
  have x2_3 := (kk.cell (off := 2) hx2 hf2.out).trans x2_2
  have x3_3 := (kk.cell (off := 3) hx2 hf2.out).trans x3_2
  have x4_3 := (kk.cell (off := 4) hx2 hf2.out).trans x4_2
  have hf3 := hid (kk.off hx2 hf2.out)
  have hx3 : kb < W3.heap.size := Nat.lt_of_lt_of_le hx2 kk.size
  clear hh kk
  clear x0_2 x1_2 x2_2 x3_2 x4_2
  obtain ⟨eb1, eo1, ea1, ec1, he1, hx1'⟩ := DA3.out.ex (l := [x, y]) 1 (by simp)
  obtain ⟨rfl, rfl⟩ : eb0 = eb1 ∧ eo0 = eo1 := by cases he1; exact ⟨rfl, rfl⟩
  have hx1 : ExAt W3 (Off b v3) eb0 (eo0 + 1 * 5) y ea1 ec1 := hx1'
  have q10 := hx1.c0
  have q11 := hx1.c1
  have q12 := hx1.c2
  have q13 := hx1.c3
  have q14 := hx1.c4
  rw [Nat.one_mul] at q10 q11 q12 q13 q14
  have hle1 := hx1.lt
  have HEx1 := hid hx1
  clear hx1 hx1'
  go_wp2_with fail
  refine (HY.out b _ v3 W3 ea1 ec1 H3.out HEx1.out.args HEx1.out.wm HEx1.out.wna (by simp; omega)).mono ?_
  rintro e W4 ⟨v4, rfl, hh, kk⟩
  have H4 : Hid (Wr b (ts ++ ([pTk tLp] ++ tE x ++ [pTk ⟨#[42]⟩] ++ tE y)) v4 W4) := by
    have := hh
    rw [List.append_assoc] at this
    exact this
  have K4 := hid (K3.out.trans kk)
  have hlt4 := hh.lt
  have hz4 := kk.size
  have DA4 := hid (DA3.out.moves kk.moves)
  have x0_4 := (kk.cell (off := 0) hx3 hf3.out).trans x0_3
  have x1_4 := (kk.cell (off := 1) hx3 hf3.out).trans x1_3
  have x2_4 := (kk.cell (off := 2) hx3 hf3.out).trans x2_3
  have x3_4 := (kk.cell (off := 3) hx3 hf3.out).trans x3_3
  have x4_4 := (kk.cell (off := 4) hx3 hf3.out).trans x4_3
  have hf4 := hid (kk.off hx3 hf3.out)
  have hx4 : kb < W4.heap.size := Nat.lt_of_lt_of_le hx3 kk.size
  clear hh kk
  clear x0_3 x1_3 x2_3 x3_3 x4_3
  go_wp2_with fail
  refine (put1 b _ tRp _ v4 W4 (by omega) H4.out (by decide) (by simp; omega)).mono ?_
  rintro e W5 ⟨v5, rfl, hh, kk⟩
  have H5 : Hid (Wr b (ts ++ ([pTk tLp] ++ tE x ++ [pTk ⟨#[42]⟩] ++ tE y ++ [pTk tRp])) v5 W5) := by
    have := hh
    rw [List.append_assoc] at this
    exact this
  have K5 := hid (K4.out.trans kk)
  have hlt5 := hh.lt
  have hz5 := kk.size
  have DA5 := hid (DA4.out.moves kk.moves)
  have x0_5 := (kk.cell (off := 0) hx4 hf4.out).trans x0_4
  have x1_5 := (kk.cell (off := 1) hx4 hf4.out).trans x1_4
  have x2_5 := (kk.cell (off := 2) hx4 hf4.out).trans x2_4
  have x3_5 := (kk.cell (off := 3) hx4 hf4.out).trans x3_4
  have x4_5 := (kk.cell (off := 4) hx4 hf4.out).trans x4_4
  have hf5 := hid (kk.off hx4 hf4.out)
  have hx5 : kb < W5.heap.size := Nat.lt_of_lt_of_le hx4 kk.size
  clear hh kk
  clear x0_4 x1_4 x2_4 x3_4 x4_4
  go_wp2_with fail
  go_end0
  exact ⟨v5, rfl, by rw [HE.out]; exact H5.out, K5.out⟩
set_option maxRecDepth 100000 in
set_option maxHeartbeats 1600000 in
theorem expr_12 (n : Int) (m nm : ByteArray) (x y : Ex) (hX : WrE x) (hY : WrE y) (b : Nat) (ts : List Tk) (v0 : Value) (W : World) (aa : Option Addr) (cap : Nat) (h : Wr b ts v0 W) (hA : DAt W (Off b v0) aa 2 (exsD [x, y])) (hl : ts.length + (tE x).length + (tE y).length + 3 ≤ 4000000000000) :
    Calls Tryz.prog 124 #[.pointer (some ⟨b, 0, none⟩), .agg #[.int .i64 12, .int .i64 n, .string m, .string nm, .slice aa 2 cap]] W (WEnd b ts v0 W (kTk tLp :: (tE x ++ opTk 12 :: (tE y ++ [kTk tRp])))) := by
  have HE : Hid (kTk tLp :: (tE x ++ opTk 12 :: (tE y ++ [kTk tRp])) = [pTk tLp] ++ tE x ++ [pTk ⟨#[47]⟩] ++ tE y ++ [pTk tRp]) := by
    show _ = _
    rw [pk (t := tLp) (by decide), pk (t := tRp) (by decide), pk (t := ⟨#[47]⟩) (by decide), show opTk 12 = kTk ⟨#[47]⟩ from rfl]; simp
  have HX := hid hX
  have HY := hid hY
  clear hX hY
  obtain ⟨W0, hW0⟩ : ∃ W0, W0 = W.alloc (.cells #[.int .i64 12, .int .i64 n, .string m, .string nm, .slice aa 2 cap] 76) := ⟨_, rfl⟩
  obtain ⟨x0_0, x1_0, x2_0, x3_0, x4_0⟩ := box5 W (.int .i64 12) (.int .i64 n) (.string m) (.string nm) (.slice aa 2 cap) 76
  rw [← hW0] at x0_0 x1_0 x2_0 x3_0 x4_0
  have H0 : Hid (Wr b (ts ++ []) v0 W0) := by
    rw [hW0, List.append_nil]; exact h.alloc _
  have K0 : Hid (WK b v0 v0 W W0) := by rw [hW0]; exact WK.of_below (al1 _ _) b v0
  have hz0 : W0.heap.size = W.heap.size + 1 := by rw [hW0]; simp
  have hlt0 : b < W0.heap.size := H0.out.lt
  have hf0 : Hid (Off b v0 W.heap.size) := h.own (Nat.le_refl _)
  have hx0 : W.heap.size < W0.heap.size := by omega
  have DA0 : Hid (DAt W0 (Off b v0) aa 2 (exsD [x, y])) := by rw [hW0]; exact hA.moves (Moves.of_below (al1 _ _) _)
  clear h hA
  generalize hkb : W.heap.size = kb at *
  go_enter Tryz.func124, Tryz.ntmps124
  go_upto_region 1 with fail
  rw [← hW0]
  clear hW0
  go_wp2_with fail
  refine (put1 b _ tLp _ v0 W0 (by omega) H0.out (by decide) (by simp; omega)).mono ?_
  rintro e W1 ⟨v1, rfl, hh, kk⟩
  have H1 : Hid (Wr b (ts ++ ([pTk tLp])) v1 W1) := by
    have := hh
    rw [List.append_assoc] at this
    exact this
  have K1 := hid (K0.out.trans kk)
  have hlt1 := hh.lt
  have hz1 := kk.size
  have DA1 := hid (DA0.out.moves kk.moves)
  have x0_1 := (kk.cell (off := 0) hx0 hf0.out).trans x0_0
  have x1_1 := (kk.cell (off := 1) hx0 hf0.out).trans x1_0
  have x2_1 := (kk.cell (off := 2) hx0 hf0.out).trans x2_0
  have x3_1 := (kk.cell (off := 3) hx0 hf0.out).trans x3_0
  have x4_1 := (kk.cell (off := 4) hx0 hf0.out).trans x4_0
  have hf1 := hid (kk.off hx0 hf0.out)
  have hx1 : kb < W1.heap.size := Nat.lt_of_lt_of_le hx0 kk.size
  clear hh kk
  clear x0_0 x1_0 x2_0 x3_0 x4_0
  obtain ⟨eb0, eo0, ea0, ec0, he0, hx0'⟩ := DA1.out.ex (l := [x, y]) 0 (by simp)
  subst he0
  have hx0 : ExAt W1 (Off b v1) eb0 (eo0 + 0 * 5) x ea0 ec0 := hx0'
  have q00 := hx0.c0
  have q01 := hx0.c1
  have q02 := hx0.c2
  have q03 := hx0.c3
  have q04 := hx0.c4
  rw [Nat.zero_mul, Nat.add_zero] at q00 q01 q02 q03 q04
  have hle0 := hx0.lt
  have HEx0 := hid hx0
  clear hx0 hx0'
  go_wp2_with fail
  refine (HX.out b _ v1 W1 ea0 ec0 H1.out HEx0.out.args HEx0.out.wm HEx0.out.wna (by simp; omega)).mono ?_
  rintro e W2 ⟨v2, rfl, hh, kk⟩
  have H2 : Hid (Wr b (ts ++ ([pTk tLp] ++ tE x)) v2 W2) := by
    have := hh
    rw [List.append_assoc] at this
    exact this
  have K2 := hid (K1.out.trans kk)
  have hlt2 := hh.lt
  have hz2 := kk.size
  have DA2 := hid (DA1.out.moves kk.moves)
  have x0_2 := (kk.cell (off := 0) hx1 hf1.out).trans x0_1
  have x1_2 := (kk.cell (off := 1) hx1 hf1.out).trans x1_1
  have x2_2 := (kk.cell (off := 2) hx1 hf1.out).trans x2_1
  have x3_2 := (kk.cell (off := 3) hx1 hf1.out).trans x3_1
  have x4_2 := (kk.cell (off := 4) hx1 hf1.out).trans x4_1
  have hf2 := hid (kk.off hx1 hf1.out)
  have hx2 : kb < W2.heap.size := Nat.lt_of_lt_of_le hx1 kk.size
  clear hh kk
  clear x0_1 x1_1 x2_1 x3_1 x4_1
  clear q00 q01 q02 q03 q04 hle0
  go_wp2_with fail
  refine (put1 b _ ⟨#[47]⟩ _ v2 W2 (by omega) H2.out (by decide) (by simp; omega)).mono ?_
  rintro e W3 ⟨v3, rfl, hh, kk⟩
  have H3 : Hid (Wr b (ts ++ ([pTk tLp] ++ tE x ++ [pTk ⟨#[47]⟩])) v3 W3) := by
    have := hh
    rw [List.append_assoc] at this
    exact this
  have K3 := hid (K2.out.trans kk)
  have hlt3 := hh.lt
  have hz3 := kk.size
  have DA3 := hid (DA2.out.moves kk.moves)
  have x0_3 := (kk.cell (off := 0) hx2 hf2.out).trans x0_2
  have x1_3 := (kk.cell (off := 1) hx2 hf2.out).trans x1_2
  have x2_3 := (kk.cell (off := 2) hx2 hf2.out).trans x2_2
  have x3_3 := (kk.cell (off := 3) hx2 hf2.out).trans x3_2
  have x4_3 := (kk.cell (off := 4) hx2 hf2.out).trans x4_2
  have hf3 := hid (kk.off hx2 hf2.out)
  have hx3 : kb < W3.heap.size := Nat.lt_of_lt_of_le hx2 kk.size
  clear hh kk
  clear x0_2 x1_2 x2_2 x3_2 x4_2
  obtain ⟨eb1, eo1, ea1, ec1, he1, hx1'⟩ := DA3.out.ex (l := [x, y]) 1 (by simp)
  obtain ⟨rfl, rfl⟩ : eb0 = eb1 ∧ eo0 = eo1 := by cases he1; exact ⟨rfl, rfl⟩
  have hx1 : ExAt W3 (Off b v3) eb0 (eo0 + 1 * 5) y ea1 ec1 := hx1'
  have q10 := hx1.c0
  have q11 := hx1.c1
  have q12 := hx1.c2
  have q13 := hx1.c3
  have q14 := hx1.c4
  rw [Nat.one_mul] at q10 q11 q12 q13 q14
  have hle1 := hx1.lt
  have HEx1 := hid hx1
  clear hx1 hx1'
  go_wp2_with fail
  refine (HY.out b _ v3 W3 ea1 ec1 H3.out HEx1.out.args HEx1.out.wm HEx1.out.wna (by simp; omega)).mono ?_
  rintro e W4 ⟨v4, rfl, hh, kk⟩
  have H4 : Hid (Wr b (ts ++ ([pTk tLp] ++ tE x ++ [pTk ⟨#[47]⟩] ++ tE y)) v4 W4) := by
    have := hh
    rw [List.append_assoc] at this
    exact this
  have K4 := hid (K3.out.trans kk)
  have hlt4 := hh.lt
  have hz4 := kk.size
  have DA4 := hid (DA3.out.moves kk.moves)
  have x0_4 := (kk.cell (off := 0) hx3 hf3.out).trans x0_3
  have x1_4 := (kk.cell (off := 1) hx3 hf3.out).trans x1_3
  have x2_4 := (kk.cell (off := 2) hx3 hf3.out).trans x2_3
  have x3_4 := (kk.cell (off := 3) hx3 hf3.out).trans x3_3
  have x4_4 := (kk.cell (off := 4) hx3 hf3.out).trans x4_3
  have hf4 := hid (kk.off hx3 hf3.out)
  have hx4 : kb < W4.heap.size := Nat.lt_of_lt_of_le hx3 kk.size
  clear hh kk
  clear x0_3 x1_3 x2_3 x3_3 x4_3
  go_wp2_with fail
  refine (put1 b _ tRp _ v4 W4 (by omega) H4.out (by decide) (by simp; omega)).mono ?_
  rintro e W5 ⟨v5, rfl, hh, kk⟩
  have H5 : Hid (Wr b (ts ++ ([pTk tLp] ++ tE x ++ [pTk ⟨#[47]⟩] ++ tE y ++ [pTk tRp])) v5 W5) := by
    have := hh
    rw [List.append_assoc] at this
    exact this
  have K5 := hid (K4.out.trans kk)
  have hlt5 := hh.lt
  have hz5 := kk.size
  have DA5 := hid (DA4.out.moves kk.moves)
  have x0_5 := (kk.cell (off := 0) hx4 hf4.out).trans x0_4
  have x1_5 := (kk.cell (off := 1) hx4 hf4.out).trans x1_4
  have x2_5 := (kk.cell (off := 2) hx4 hf4.out).trans x2_4
  have x3_5 := (kk.cell (off := 3) hx4 hf4.out).trans x3_4
  have x4_5 := (kk.cell (off := 4) hx4 hf4.out).trans x4_4
  have hf5 := hid (kk.off hx4 hf4.out)
  have hx5 : kb < W5.heap.size := Nat.lt_of_lt_of_le hx4 kk.size
  clear hh kk
  clear x0_4 x1_4 x2_4 x3_4 x4_4
  go_wp2_with fail
  go_end0
  exact ⟨v5, rfl, by rw [HE.out]; exact H5.out, K5.out⟩
set_option maxRecDepth 100000 in
set_option maxHeartbeats 1600000 in
theorem expr_13 (n : Int) (m nm : ByteArray) (x y : Ex) (hX : WrE x) (hY : WrE y) (b : Nat) (ts : List Tk) (v0 : Value) (W : World) (aa : Option Addr) (cap : Nat) (h : Wr b ts v0 W) (hA : DAt W (Off b v0) aa 2 (exsD [x, y])) (hl : ts.length + (tE x).length + (tE y).length + 3 ≤ 4000000000000) :
    Calls Tryz.prog 124 #[.pointer (some ⟨b, 0, none⟩), .agg #[.int .i64 13, .int .i64 n, .string m, .string nm, .slice aa 2 cap]] W (WEnd b ts v0 W (kTk tLp :: (tE x ++ opTk 13 :: (tE y ++ [kTk tRp])))) := by
  have HE : Hid (kTk tLp :: (tE x ++ opTk 13 :: (tE y ++ [kTk tRp])) = [pTk tLp] ++ tE x ++ [pTk ⟨#[37]⟩] ++ tE y ++ [pTk tRp]) := by
    show _ = _
    rw [pk (t := tLp) (by decide), pk (t := tRp) (by decide), pk (t := ⟨#[37]⟩) (by decide), show opTk 13 = kTk ⟨#[37]⟩ from rfl]; simp
  have HX := hid hX
  have HY := hid hY
  clear hX hY
  obtain ⟨W0, hW0⟩ : ∃ W0, W0 = W.alloc (.cells #[.int .i64 13, .int .i64 n, .string m, .string nm, .slice aa 2 cap] 76) := ⟨_, rfl⟩
  obtain ⟨x0_0, x1_0, x2_0, x3_0, x4_0⟩ := box5 W (.int .i64 13) (.int .i64 n) (.string m) (.string nm) (.slice aa 2 cap) 76
  rw [← hW0] at x0_0 x1_0 x2_0 x3_0 x4_0
  have H0 : Hid (Wr b (ts ++ []) v0 W0) := by
    rw [hW0, List.append_nil]; exact h.alloc _
  have K0 : Hid (WK b v0 v0 W W0) := by rw [hW0]; exact WK.of_below (al1 _ _) b v0
  have hz0 : W0.heap.size = W.heap.size + 1 := by rw [hW0]; simp
  have hlt0 : b < W0.heap.size := H0.out.lt
  have hf0 : Hid (Off b v0 W.heap.size) := h.own (Nat.le_refl _)
  have hx0 : W.heap.size < W0.heap.size := by omega
  have DA0 : Hid (DAt W0 (Off b v0) aa 2 (exsD [x, y])) := by rw [hW0]; exact hA.moves (Moves.of_below (al1 _ _) _)
  clear h hA
  generalize hkb : W.heap.size = kb at *
  go_enter Tryz.func124, Tryz.ntmps124
  go_upto_region 1 with fail
  rw [← hW0]
  clear hW0
  go_wp2_with fail
  refine (put1 b _ tLp _ v0 W0 (by omega) H0.out (by decide) (by simp; omega)).mono ?_
  rintro e W1 ⟨v1, rfl, hh, kk⟩
  have H1 : Hid (Wr b (ts ++ ([pTk tLp])) v1 W1) := by
    have := hh
    rw [List.append_assoc] at this
    exact this
  have K1 := hid (K0.out.trans kk)
  have hlt1 := hh.lt
  have hz1 := kk.size
  have DA1 := hid (DA0.out.moves kk.moves)
  have x0_1 := (kk.cell (off := 0) hx0 hf0.out).trans x0_0
  have x1_1 := (kk.cell (off := 1) hx0 hf0.out).trans x1_0
  have x2_1 := (kk.cell (off := 2) hx0 hf0.out).trans x2_0
  have x3_1 := (kk.cell (off := 3) hx0 hf0.out).trans x3_0
  have x4_1 := (kk.cell (off := 4) hx0 hf0.out).trans x4_0
  have hf1 := hid (kk.off hx0 hf0.out)
  have hx1 : kb < W1.heap.size := Nat.lt_of_lt_of_le hx0 kk.size
  clear hh kk
  clear x0_0 x1_0 x2_0 x3_0 x4_0
  obtain ⟨eb0, eo0, ea0, ec0, he0, hx0'⟩ := DA1.out.ex (l := [x, y]) 0 (by simp)
  subst he0
  have hx0 : ExAt W1 (Off b v1) eb0 (eo0 + 0 * 5) x ea0 ec0 := hx0'
  have q00 := hx0.c0
  have q01 := hx0.c1
  have q02 := hx0.c2
  have q03 := hx0.c3
  have q04 := hx0.c4
  rw [Nat.zero_mul, Nat.add_zero] at q00 q01 q02 q03 q04
  have hle0 := hx0.lt
  have HEx0 := hid hx0
  clear hx0 hx0'
  go_wp2_with fail
  refine (HX.out b _ v1 W1 ea0 ec0 H1.out HEx0.out.args HEx0.out.wm HEx0.out.wna (by simp; omega)).mono ?_
  rintro e W2 ⟨v2, rfl, hh, kk⟩
  have H2 : Hid (Wr b (ts ++ ([pTk tLp] ++ tE x)) v2 W2) := by
    have := hh
    rw [List.append_assoc] at this
    exact this
  have K2 := hid (K1.out.trans kk)
  have hlt2 := hh.lt
  have hz2 := kk.size
  have DA2 := hid (DA1.out.moves kk.moves)
  have x0_2 := (kk.cell (off := 0) hx1 hf1.out).trans x0_1
  have x1_2 := (kk.cell (off := 1) hx1 hf1.out).trans x1_1
  have x2_2 := (kk.cell (off := 2) hx1 hf1.out).trans x2_1
  have x3_2 := (kk.cell (off := 3) hx1 hf1.out).trans x3_1
  have x4_2 := (kk.cell (off := 4) hx1 hf1.out).trans x4_1
  have hf2 := hid (kk.off hx1 hf1.out)
  have hx2 : kb < W2.heap.size := Nat.lt_of_lt_of_le hx1 kk.size
  clear hh kk
  clear x0_1 x1_1 x2_1 x3_1 x4_1
  clear q00 q01 q02 q03 q04 hle0
  go_wp2_with fail
  refine (put1 b _ ⟨#[37]⟩ _ v2 W2 (by omega) H2.out (by decide) (by simp; omega)).mono ?_
  rintro e W3 ⟨v3, rfl, hh, kk⟩
  have H3 : Hid (Wr b (ts ++ ([pTk tLp] ++ tE x ++ [pTk ⟨#[37]⟩])) v3 W3) := by
    have := hh
    rw [List.append_assoc] at this
    exact this
  have K3 := hid (K2.out.trans kk)
  have hlt3 := hh.lt
  have hz3 := kk.size
  have DA3 := hid (DA2.out.moves kk.moves)
  have x0_3 := (kk.cell (off := 0) hx2 hf2.out).trans x0_2
  have x1_3 := (kk.cell (off := 1) hx2 hf2.out).trans x1_2
  have x2_3 := (kk.cell (off := 2) hx2 hf2.out).trans x2_2
  have x3_3 := (kk.cell (off := 3) hx2 hf2.out).trans x3_2
  have x4_3 := (kk.cell (off := 4) hx2 hf2.out).trans x4_2
  have hf3 := hid (kk.off hx2 hf2.out)
  have hx3 : kb < W3.heap.size := Nat.lt_of_lt_of_le hx2 kk.size
  clear hh kk
  clear x0_2 x1_2 x2_2 x3_2 x4_2
  obtain ⟨eb1, eo1, ea1, ec1, he1, hx1'⟩ := DA3.out.ex (l := [x, y]) 1 (by simp)
  obtain ⟨rfl, rfl⟩ : eb0 = eb1 ∧ eo0 = eo1 := by cases he1; exact ⟨rfl, rfl⟩
  have hx1 : ExAt W3 (Off b v3) eb0 (eo0 + 1 * 5) y ea1 ec1 := hx1'
  have q10 := hx1.c0
  have q11 := hx1.c1
  have q12 := hx1.c2
  have q13 := hx1.c3
  have q14 := hx1.c4
  rw [Nat.one_mul] at q10 q11 q12 q13 q14
  have hle1 := hx1.lt
  have HEx1 := hid hx1
  clear hx1 hx1'
  go_wp2_with fail
  refine (HY.out b _ v3 W3 ea1 ec1 H3.out HEx1.out.args HEx1.out.wm HEx1.out.wna (by simp; omega)).mono ?_
  rintro e W4 ⟨v4, rfl, hh, kk⟩
  have H4 : Hid (Wr b (ts ++ ([pTk tLp] ++ tE x ++ [pTk ⟨#[37]⟩] ++ tE y)) v4 W4) := by
    have := hh
    rw [List.append_assoc] at this
    exact this
  have K4 := hid (K3.out.trans kk)
  have hlt4 := hh.lt
  have hz4 := kk.size
  have DA4 := hid (DA3.out.moves kk.moves)
  have x0_4 := (kk.cell (off := 0) hx3 hf3.out).trans x0_3
  have x1_4 := (kk.cell (off := 1) hx3 hf3.out).trans x1_3
  have x2_4 := (kk.cell (off := 2) hx3 hf3.out).trans x2_3
  have x3_4 := (kk.cell (off := 3) hx3 hf3.out).trans x3_3
  have x4_4 := (kk.cell (off := 4) hx3 hf3.out).trans x4_3
  have hf4 := hid (kk.off hx3 hf3.out)
  have hx4 : kb < W4.heap.size := Nat.lt_of_lt_of_le hx3 kk.size
  clear hh kk
  clear x0_3 x1_3 x2_3 x3_3 x4_3
  go_wp2_with fail
  refine (put1 b _ tRp _ v4 W4 (by omega) H4.out (by decide) (by simp; omega)).mono ?_
  rintro e W5 ⟨v5, rfl, hh, kk⟩
  have H5 : Hid (Wr b (ts ++ ([pTk tLp] ++ tE x ++ [pTk ⟨#[37]⟩] ++ tE y ++ [pTk tRp])) v5 W5) := by
    have := hh
    rw [List.append_assoc] at this
    exact this
  have K5 := hid (K4.out.trans kk)
  have hlt5 := hh.lt
  have hz5 := kk.size
  have DA5 := hid (DA4.out.moves kk.moves)
  have x0_5 := (kk.cell (off := 0) hx4 hf4.out).trans x0_4
  have x1_5 := (kk.cell (off := 1) hx4 hf4.out).trans x1_4
  have x2_5 := (kk.cell (off := 2) hx4 hf4.out).trans x2_4
  have x3_5 := (kk.cell (off := 3) hx4 hf4.out).trans x3_4
  have x4_5 := (kk.cell (off := 4) hx4 hf4.out).trans x4_4
  have hf5 := hid (kk.off hx4 hf4.out)
  have hx5 : kb < W5.heap.size := Nat.lt_of_lt_of_le hx4 kk.size
  clear hh kk
  clear x0_4 x1_4 x2_4 x3_4 x4_4
  go_wp2_with fail
  go_end0
  exact ⟨v5, rfl, by rw [HE.out]; exact H5.out, K5.out⟩
set_option maxRecDepth 100000 in
set_option maxHeartbeats 1600000 in
theorem expr_14 (n : Int) (m nm : ByteArray) (x y : Ex) (hX : WrE x) (hY : WrE y) (b : Nat) (ts : List Tk) (v0 : Value) (W : World) (aa : Option Addr) (cap : Nat) (h : Wr b ts v0 W) (hA : DAt W (Off b v0) aa 2 (exsD [x, y])) (hl : ts.length + (tE x).length + (tE y).length + 3 ≤ 4000000000000) :
    Calls Tryz.prog 124 #[.pointer (some ⟨b, 0, none⟩), .agg #[.int .i64 14, .int .i64 n, .string m, .string nm, .slice aa 2 cap]] W (WEnd b ts v0 W (kTk tLp :: (tE x ++ opTk 14 :: (tE y ++ [kTk tRp])))) := by
  have HE : Hid (kTk tLp :: (tE x ++ opTk 14 :: (tE y ++ [kTk tRp])) = [pTk tLp] ++ tE x ++ [pTk ⟨#[61]⟩] ++ tE y ++ [pTk tRp]) := by
    show _ = _
    rw [pk (t := tLp) (by decide), pk (t := tRp) (by decide), pk (t := ⟨#[61]⟩) (by decide), show opTk 14 = kTk ⟨#[61]⟩ from rfl]; simp
  have HX := hid hX
  have HY := hid hY
  clear hX hY
  obtain ⟨W0, hW0⟩ : ∃ W0, W0 = W.alloc (.cells #[.int .i64 14, .int .i64 n, .string m, .string nm, .slice aa 2 cap] 76) := ⟨_, rfl⟩
  obtain ⟨x0_0, x1_0, x2_0, x3_0, x4_0⟩ := box5 W (.int .i64 14) (.int .i64 n) (.string m) (.string nm) (.slice aa 2 cap) 76
  rw [← hW0] at x0_0 x1_0 x2_0 x3_0 x4_0
  have H0 : Hid (Wr b (ts ++ []) v0 W0) := by
    rw [hW0, List.append_nil]; exact h.alloc _
  have K0 : Hid (WK b v0 v0 W W0) := by rw [hW0]; exact WK.of_below (al1 _ _) b v0
  have hz0 : W0.heap.size = W.heap.size + 1 := by rw [hW0]; simp
  have hlt0 : b < W0.heap.size := H0.out.lt
  have hf0 : Hid (Off b v0 W.heap.size) := h.own (Nat.le_refl _)
  have hx0 : W.heap.size < W0.heap.size := by omega
  have DA0 : Hid (DAt W0 (Off b v0) aa 2 (exsD [x, y])) := by rw [hW0]; exact hA.moves (Moves.of_below (al1 _ _) _)
  clear h hA
  generalize hkb : W.heap.size = kb at *
  go_enter Tryz.func124, Tryz.ntmps124
  go_upto_region 1 with fail
  rw [← hW0]
  clear hW0
  go_wp2_with fail
  refine (put1 b _ tLp _ v0 W0 (by omega) H0.out (by decide) (by simp; omega)).mono ?_
  rintro e W1 ⟨v1, rfl, hh, kk⟩
  have H1 : Hid (Wr b (ts ++ ([pTk tLp])) v1 W1) := by
    have := hh
    rw [List.append_assoc] at this
    exact this
  have K1 := hid (K0.out.trans kk)
  have hlt1 := hh.lt
  have hz1 := kk.size
  have DA1 := hid (DA0.out.moves kk.moves)
  have x0_1 := (kk.cell (off := 0) hx0 hf0.out).trans x0_0
  have x1_1 := (kk.cell (off := 1) hx0 hf0.out).trans x1_0
  have x2_1 := (kk.cell (off := 2) hx0 hf0.out).trans x2_0
  have x3_1 := (kk.cell (off := 3) hx0 hf0.out).trans x3_0
  have x4_1 := (kk.cell (off := 4) hx0 hf0.out).trans x4_0
  have hf1 := hid (kk.off hx0 hf0.out)
  have hx1 : kb < W1.heap.size := Nat.lt_of_lt_of_le hx0 kk.size
  clear hh kk
  clear x0_0 x1_0 x2_0 x3_0 x4_0
  obtain ⟨eb0, eo0, ea0, ec0, he0, hx0'⟩ := DA1.out.ex (l := [x, y]) 0 (by simp)
  subst he0
  have hx0 : ExAt W1 (Off b v1) eb0 (eo0 + 0 * 5) x ea0 ec0 := hx0'
  have q00 := hx0.c0
  have q01 := hx0.c1
  have q02 := hx0.c2
  have q03 := hx0.c3
  have q04 := hx0.c4
  rw [Nat.zero_mul, Nat.add_zero] at q00 q01 q02 q03 q04
  have hle0 := hx0.lt
  have HEx0 := hid hx0
  clear hx0 hx0'
  go_wp2_with fail
  refine (HX.out b _ v1 W1 ea0 ec0 H1.out HEx0.out.args HEx0.out.wm HEx0.out.wna (by simp; omega)).mono ?_
  rintro e W2 ⟨v2, rfl, hh, kk⟩
  have H2 : Hid (Wr b (ts ++ ([pTk tLp] ++ tE x)) v2 W2) := by
    have := hh
    rw [List.append_assoc] at this
    exact this
  have K2 := hid (K1.out.trans kk)
  have hlt2 := hh.lt
  have hz2 := kk.size
  have DA2 := hid (DA1.out.moves kk.moves)
  have x0_2 := (kk.cell (off := 0) hx1 hf1.out).trans x0_1
  have x1_2 := (kk.cell (off := 1) hx1 hf1.out).trans x1_1
  have x2_2 := (kk.cell (off := 2) hx1 hf1.out).trans x2_1
  have x3_2 := (kk.cell (off := 3) hx1 hf1.out).trans x3_1
  have x4_2 := (kk.cell (off := 4) hx1 hf1.out).trans x4_1
  have hf2 := hid (kk.off hx1 hf1.out)
  have hx2 : kb < W2.heap.size := Nat.lt_of_lt_of_le hx1 kk.size
  clear hh kk
  clear x0_1 x1_1 x2_1 x3_1 x4_1
  clear q00 q01 q02 q03 q04 hle0
  go_wp2_with fail
  refine (put1 b _ ⟨#[61]⟩ _ v2 W2 (by omega) H2.out (by decide) (by simp; omega)).mono ?_
  rintro e W3 ⟨v3, rfl, hh, kk⟩
  have H3 : Hid (Wr b (ts ++ ([pTk tLp] ++ tE x ++ [pTk ⟨#[61]⟩])) v3 W3) := by
    have := hh
    rw [List.append_assoc] at this
    exact this
  have K3 := hid (K2.out.trans kk)
  have hlt3 := hh.lt
  have hz3 := kk.size
  have DA3 := hid (DA2.out.moves kk.moves)
  have x0_3 := (kk.cell (off := 0) hx2 hf2.out).trans x0_2
  have x1_3 := (kk.cell (off := 1) hx2 hf2.out).trans x1_2
  have x2_3 := (kk.cell (off := 2) hx2 hf2.out).trans x2_2
  have x3_3 := (kk.cell (off := 3) hx2 hf2.out).trans x3_2
  have x4_3 := (kk.cell (off := 4) hx2 hf2.out).trans x4_2
  have hf3 := hid (kk.off hx2 hf2.out)
  have hx3 : kb < W3.heap.size := Nat.lt_of_lt_of_le hx2 kk.size
  clear hh kk
  clear x0_2 x1_2 x2_2 x3_2 x4_2
  obtain ⟨eb1, eo1, ea1, ec1, he1, hx1'⟩ := DA3.out.ex (l := [x, y]) 1 (by simp)
  obtain ⟨rfl, rfl⟩ : eb0 = eb1 ∧ eo0 = eo1 := by cases he1; exact ⟨rfl, rfl⟩
  have hx1 : ExAt W3 (Off b v3) eb0 (eo0 + 1 * 5) y ea1 ec1 := hx1'
  have q10 := hx1.c0
  have q11 := hx1.c1
  have q12 := hx1.c2
  have q13 := hx1.c3
  have q14 := hx1.c4
  rw [Nat.one_mul] at q10 q11 q12 q13 q14
  have hle1 := hx1.lt
  have HEx1 := hid hx1
  clear hx1 hx1'
  go_wp2_with fail
  refine (HY.out b _ v3 W3 ea1 ec1 H3.out HEx1.out.args HEx1.out.wm HEx1.out.wna (by simp; omega)).mono ?_
  rintro e W4 ⟨v4, rfl, hh, kk⟩
  have H4 : Hid (Wr b (ts ++ ([pTk tLp] ++ tE x ++ [pTk ⟨#[61]⟩] ++ tE y)) v4 W4) := by
    have := hh
    rw [List.append_assoc] at this
    exact this
  have K4 := hid (K3.out.trans kk)
  have hlt4 := hh.lt
  have hz4 := kk.size
  have DA4 := hid (DA3.out.moves kk.moves)
  have x0_4 := (kk.cell (off := 0) hx3 hf3.out).trans x0_3
  have x1_4 := (kk.cell (off := 1) hx3 hf3.out).trans x1_3
  have x2_4 := (kk.cell (off := 2) hx3 hf3.out).trans x2_3
  have x3_4 := (kk.cell (off := 3) hx3 hf3.out).trans x3_3
  have x4_4 := (kk.cell (off := 4) hx3 hf3.out).trans x4_3
  have hf4 := hid (kk.off hx3 hf3.out)
  have hx4 : kb < W4.heap.size := Nat.lt_of_lt_of_le hx3 kk.size
  clear hh kk
  clear x0_3 x1_3 x2_3 x3_3 x4_3
  go_wp2_with fail
  refine (put1 b _ tRp _ v4 W4 (by omega) H4.out (by decide) (by simp; omega)).mono ?_
  rintro e W5 ⟨v5, rfl, hh, kk⟩
  have H5 : Hid (Wr b (ts ++ ([pTk tLp] ++ tE x ++ [pTk ⟨#[61]⟩] ++ tE y ++ [pTk tRp])) v5 W5) := by
    have := hh
    rw [List.append_assoc] at this
    exact this
  have K5 := hid (K4.out.trans kk)
  have hlt5 := hh.lt
  have hz5 := kk.size
  have DA5 := hid (DA4.out.moves kk.moves)
  have x0_5 := (kk.cell (off := 0) hx4 hf4.out).trans x0_4
  have x1_5 := (kk.cell (off := 1) hx4 hf4.out).trans x1_4
  have x2_5 := (kk.cell (off := 2) hx4 hf4.out).trans x2_4
  have x3_5 := (kk.cell (off := 3) hx4 hf4.out).trans x3_4
  have x4_5 := (kk.cell (off := 4) hx4 hf4.out).trans x4_4
  have hf5 := hid (kk.off hx4 hf4.out)
  have hx5 : kb < W5.heap.size := Nat.lt_of_lt_of_le hx4 kk.size
  clear hh kk
  clear x0_4 x1_4 x2_4 x3_4 x4_4
  go_wp2_with fail
  go_end0
  exact ⟨v5, rfl, by rw [HE.out]; exact H5.out, K5.out⟩
set_option maxRecDepth 100000 in
set_option maxHeartbeats 1600000 in
theorem expr_15 (n : Int) (m nm : ByteArray) (x y : Ex) (hX : WrE x) (hY : WrE y) (b : Nat) (ts : List Tk) (v0 : Value) (W : World) (aa : Option Addr) (cap : Nat) (h : Wr b ts v0 W) (hA : DAt W (Off b v0) aa 2 (exsD [x, y])) (hl : ts.length + (tE x).length + (tE y).length + 3 ≤ 4000000000000) :
    Calls Tryz.prog 124 #[.pointer (some ⟨b, 0, none⟩), .agg #[.int .i64 15, .int .i64 n, .string m, .string nm, .slice aa 2 cap]] W (WEnd b ts v0 W (kTk tLp :: (tE x ++ opTk 15 :: (tE y ++ [kTk tRp])))) := by
  have HE : Hid (kTk tLp :: (tE x ++ opTk 15 :: (tE y ++ [kTk tRp])) = [pTk tLp] ++ tE x ++ [pTk ⟨#[60]⟩] ++ tE y ++ [pTk tRp]) := by
    show _ = _
    rw [pk (t := tLp) (by decide), pk (t := tRp) (by decide), pk (t := ⟨#[60]⟩) (by decide), show opTk 15 = kTk ⟨#[60]⟩ from rfl]; simp
  have HX := hid hX
  have HY := hid hY
  clear hX hY
  obtain ⟨W0, hW0⟩ : ∃ W0, W0 = W.alloc (.cells #[.int .i64 15, .int .i64 n, .string m, .string nm, .slice aa 2 cap] 76) := ⟨_, rfl⟩
  obtain ⟨x0_0, x1_0, x2_0, x3_0, x4_0⟩ := box5 W (.int .i64 15) (.int .i64 n) (.string m) (.string nm) (.slice aa 2 cap) 76
  rw [← hW0] at x0_0 x1_0 x2_0 x3_0 x4_0
  have H0 : Hid (Wr b (ts ++ []) v0 W0) := by
    rw [hW0, List.append_nil]; exact h.alloc _
  have K0 : Hid (WK b v0 v0 W W0) := by rw [hW0]; exact WK.of_below (al1 _ _) b v0
  have hz0 : W0.heap.size = W.heap.size + 1 := by rw [hW0]; simp
  have hlt0 : b < W0.heap.size := H0.out.lt
  have hf0 : Hid (Off b v0 W.heap.size) := h.own (Nat.le_refl _)
  have hx0 : W.heap.size < W0.heap.size := by omega
  have DA0 : Hid (DAt W0 (Off b v0) aa 2 (exsD [x, y])) := by rw [hW0]; exact hA.moves (Moves.of_below (al1 _ _) _)
  clear h hA
  generalize hkb : W.heap.size = kb at *
  go_enter Tryz.func124, Tryz.ntmps124
  go_upto_region 1 with fail
  rw [← hW0]
  clear hW0
  go_wp2_with fail
  refine (put1 b _ tLp _ v0 W0 (by omega) H0.out (by decide) (by simp; omega)).mono ?_
  rintro e W1 ⟨v1, rfl, hh, kk⟩
  have H1 : Hid (Wr b (ts ++ ([pTk tLp])) v1 W1) := by
    have := hh
    rw [List.append_assoc] at this
    exact this
  have K1 := hid (K0.out.trans kk)
  have hlt1 := hh.lt
  have hz1 := kk.size
  have DA1 := hid (DA0.out.moves kk.moves)
  have x0_1 := (kk.cell (off := 0) hx0 hf0.out).trans x0_0
  have x1_1 := (kk.cell (off := 1) hx0 hf0.out).trans x1_0
  have x2_1 := (kk.cell (off := 2) hx0 hf0.out).trans x2_0
  have x3_1 := (kk.cell (off := 3) hx0 hf0.out).trans x3_0
  have x4_1 := (kk.cell (off := 4) hx0 hf0.out).trans x4_0
  have hf1 := hid (kk.off hx0 hf0.out)
  have hx1 : kb < W1.heap.size := Nat.lt_of_lt_of_le hx0 kk.size
  clear hh kk
  clear x0_0 x1_0 x2_0 x3_0 x4_0
  obtain ⟨eb0, eo0, ea0, ec0, he0, hx0'⟩ := DA1.out.ex (l := [x, y]) 0 (by simp)
  subst he0
  have hx0 : ExAt W1 (Off b v1) eb0 (eo0 + 0 * 5) x ea0 ec0 := hx0'
  have q00 := hx0.c0
  have q01 := hx0.c1
  have q02 := hx0.c2
  have q03 := hx0.c3
  have q04 := hx0.c4
  rw [Nat.zero_mul, Nat.add_zero] at q00 q01 q02 q03 q04
  have hle0 := hx0.lt
  have HEx0 := hid hx0
  clear hx0 hx0'
  go_wp2_with fail
  refine (HX.out b _ v1 W1 ea0 ec0 H1.out HEx0.out.args HEx0.out.wm HEx0.out.wna (by simp; omega)).mono ?_
  rintro e W2 ⟨v2, rfl, hh, kk⟩
  have H2 : Hid (Wr b (ts ++ ([pTk tLp] ++ tE x)) v2 W2) := by
    have := hh
    rw [List.append_assoc] at this
    exact this
  have K2 := hid (K1.out.trans kk)
  have hlt2 := hh.lt
  have hz2 := kk.size
  have DA2 := hid (DA1.out.moves kk.moves)
  have x0_2 := (kk.cell (off := 0) hx1 hf1.out).trans x0_1
  have x1_2 := (kk.cell (off := 1) hx1 hf1.out).trans x1_1
  have x2_2 := (kk.cell (off := 2) hx1 hf1.out).trans x2_1
  have x3_2 := (kk.cell (off := 3) hx1 hf1.out).trans x3_1
  have x4_2 := (kk.cell (off := 4) hx1 hf1.out).trans x4_1
  have hf2 := hid (kk.off hx1 hf1.out)
  have hx2 : kb < W2.heap.size := Nat.lt_of_lt_of_le hx1 kk.size
  clear hh kk
  clear x0_1 x1_1 x2_1 x3_1 x4_1
  clear q00 q01 q02 q03 q04 hle0
  go_wp2_with fail
  refine (put1 b _ ⟨#[60]⟩ _ v2 W2 (by omega) H2.out (by decide) (by simp; omega)).mono ?_
  rintro e W3 ⟨v3, rfl, hh, kk⟩
  have H3 : Hid (Wr b (ts ++ ([pTk tLp] ++ tE x ++ [pTk ⟨#[60]⟩])) v3 W3) := by
    have := hh
    rw [List.append_assoc] at this
    exact this
  have K3 := hid (K2.out.trans kk)
  have hlt3 := hh.lt
  have hz3 := kk.size
  have DA3 := hid (DA2.out.moves kk.moves)
  have x0_3 := (kk.cell (off := 0) hx2 hf2.out).trans x0_2
  have x1_3 := (kk.cell (off := 1) hx2 hf2.out).trans x1_2
  have x2_3 := (kk.cell (off := 2) hx2 hf2.out).trans x2_2
  have x3_3 := (kk.cell (off := 3) hx2 hf2.out).trans x3_2
  have x4_3 := (kk.cell (off := 4) hx2 hf2.out).trans x4_2
  have hf3 := hid (kk.off hx2 hf2.out)
  have hx3 : kb < W3.heap.size := Nat.lt_of_lt_of_le hx2 kk.size
  clear hh kk
  clear x0_2 x1_2 x2_2 x3_2 x4_2
  obtain ⟨eb1, eo1, ea1, ec1, he1, hx1'⟩ := DA3.out.ex (l := [x, y]) 1 (by simp)
  obtain ⟨rfl, rfl⟩ : eb0 = eb1 ∧ eo0 = eo1 := by cases he1; exact ⟨rfl, rfl⟩
  have hx1 : ExAt W3 (Off b v3) eb0 (eo0 + 1 * 5) y ea1 ec1 := hx1'
  have q10 := hx1.c0
  have q11 := hx1.c1
  have q12 := hx1.c2
  have q13 := hx1.c3
  have q14 := hx1.c4
  rw [Nat.one_mul] at q10 q11 q12 q13 q14
  have hle1 := hx1.lt
  have HEx1 := hid hx1
  clear hx1 hx1'
  go_wp2_with fail
  refine (HY.out b _ v3 W3 ea1 ec1 H3.out HEx1.out.args HEx1.out.wm HEx1.out.wna (by simp; omega)).mono ?_
  rintro e W4 ⟨v4, rfl, hh, kk⟩
  have H4 : Hid (Wr b (ts ++ ([pTk tLp] ++ tE x ++ [pTk ⟨#[60]⟩] ++ tE y)) v4 W4) := by
    have := hh
    rw [List.append_assoc] at this
    exact this
  have K4 := hid (K3.out.trans kk)
  have hlt4 := hh.lt
  have hz4 := kk.size
  have DA4 := hid (DA3.out.moves kk.moves)
  have x0_4 := (kk.cell (off := 0) hx3 hf3.out).trans x0_3
  have x1_4 := (kk.cell (off := 1) hx3 hf3.out).trans x1_3
  have x2_4 := (kk.cell (off := 2) hx3 hf3.out).trans x2_3
  have x3_4 := (kk.cell (off := 3) hx3 hf3.out).trans x3_3
  have x4_4 := (kk.cell (off := 4) hx3 hf3.out).trans x4_3
  have hf4 := hid (kk.off hx3 hf3.out)
  have hx4 : kb < W4.heap.size := Nat.lt_of_lt_of_le hx3 kk.size
  clear hh kk
  clear x0_3 x1_3 x2_3 x3_3 x4_3
  go_wp2_with fail
  refine (put1 b _ tRp _ v4 W4 (by omega) H4.out (by decide) (by simp; omega)).mono ?_
  rintro e W5 ⟨v5, rfl, hh, kk⟩
  have H5 : Hid (Wr b (ts ++ ([pTk tLp] ++ tE x ++ [pTk ⟨#[60]⟩] ++ tE y ++ [pTk tRp])) v5 W5) := by
    have := hh
    rw [List.append_assoc] at this
    exact this
  have K5 := hid (K4.out.trans kk)
  have hlt5 := hh.lt
  have hz5 := kk.size
  have DA5 := hid (DA4.out.moves kk.moves)
  have x0_5 := (kk.cell (off := 0) hx4 hf4.out).trans x0_4
  have x1_5 := (kk.cell (off := 1) hx4 hf4.out).trans x1_4
  have x2_5 := (kk.cell (off := 2) hx4 hf4.out).trans x2_4
  have x3_5 := (kk.cell (off := 3) hx4 hf4.out).trans x3_4
  have x4_5 := (kk.cell (off := 4) hx4 hf4.out).trans x4_4
  have hf5 := hid (kk.off hx4 hf4.out)
  have hx5 : kb < W5.heap.size := Nat.lt_of_lt_of_le hx4 kk.size
  clear hh kk
  clear x0_4 x1_4 x2_4 x3_4 x4_4
  go_wp2_with fail
  go_end0
  exact ⟨v5, rfl, by rw [HE.out]; exact H5.out, K5.out⟩
end Go.Proofs.YtcekpobmbmnplaaGreatDoor
