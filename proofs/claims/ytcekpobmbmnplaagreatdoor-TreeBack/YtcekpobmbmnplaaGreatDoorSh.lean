/-
  The writer: declarations.
-/
import Derived.Test.YtcekpobmbmnplaaGreatDoorSg
namespace Go.Proofs.YtcekpobmbmnplaaGreatDoor
open Go.RowKit Go.Shelf

theorem box4 (W : World) (x0 x1 x2 x3 : Value) (t : TypeId) : (W.alloc (.cells #[x0, x1, x2, x3] t)).cell? ⟨W.heap.size, 0, none⟩ = some x0 ∧ (W.alloc (.cells #[x0, x1, x2, x3] t)).cell? ⟨W.heap.size, 1, none⟩ = some x1 ∧ (W.alloc (.cells #[x0, x1, x2, x3] t)).cell? ⟨W.heap.size, 2, none⟩ = some x2 ∧ (W.alloc (.cells #[x0, x1, x2, x3] t)).cell? ⟨W.heap.size, 3, none⟩ = some x3 := by
  have h := heap_newP W (.cells #[x0, x1, x2, x3] t)
  exact ⟨by rw [Lib.cell_of_heap h]; rfl, by rw [Lib.cell_of_heap h]; rfl, by rw [Lib.cell_of_heap h]; rfl, by rw [Lib.cell_of_heap h]; rfl⟩
set_option maxRecDepth 100000 in
set_option maxHeartbeats 1600000 in
theorem pub_w (p : Bool) (b : Nat) (ts : List Tk) (v : Value) (W : World) (h : Wr b ts v W) (hl : ts.length + (pubT p).length ≤ 4000000000000) :
    Calls Tryz.prog 98 #[.pointer (some ⟨b, 0, none⟩), .bool p] W (WEnd b ts v W (pubT p)) := by
  have HW := hid h
  have hlt := h.lt
  have HK : Hid (kTk tPub = pTk tPub) := (pk (by decide)).symm
  clear h
  cases p with
  | true =>
    have HE : Hid (pubT true = [pTk tPub]) := by show _ = _; unfold pubT; rw [if_pos rfl, HK.out]
    rw [HE.out] at hl ⊢
    go_enter Tryz.func98, Tryz.ntmps98
    go_wp2_with fail
    refine (put1 b _ tPub ts v W rfl HW.out (by decide) (by simpa using hl)).mono ?_
    rintro e W1 ⟨v1, rfl, h1, k1⟩
    go_wp2_with fail
    go_end0
    exact ⟨v1, rfl, h1, k1⟩
  | false =>
    have HE : Hid (pubT false = []) := rfl
    go_enter Tryz.func98, Tryz.ntmps98
    go_wp2_with fail
    go_end0
    exact ⟨v, rfl, by show Wr b (ts ++ []) v W; rw [List.append_nil]; exact HW.out, WK.refl _ _ _⟩
set_option maxRecDepth 100000 in
set_option maxHeartbeats 1600000 in
theorem decl_1 (n : Int) (nm : ByteArray) (p : Bool) (hn : nameOk nm = true) (b : Nat) (ts : List Tk) (v0 : Value) (W : World) (h : Wr b ts v0 W) (hl : ts.length + (pubT p).length + 5 ≤ 4000000000000) :
    Calls Tryz.prog 60 #[.pointer (some ⟨b, 0, none⟩), .agg #[.int .i64 1, .string nm, .bool p, .int .i64 n]] W (WEnd b ts v0 W (pubT p ++ [kTk tConst, wTk nm, kTk tEq, nTk n, kTk tSem])) := by
  have HE : Hid (pubT p ++ [kTk tConst, wTk nm, kTk tEq, nTk n, kTk tSem] = pubT p ++ [pTk tConst, pTk nm, pTk tEq] ++ [nTk n] ++ [pTk tSem]) := by
    show _ = _
    rw [pn hn, pk (t := tConst) (by decide), pk (t := tEq) (by decide), pk (t := tSem) (by decide)]; simp
  have hnf := name_fit hn
  obtain ⟨W0, hW0⟩ : ∃ W0, W0 = W.alloc (.cells #[.int .i64 1, .string nm, .bool p, .int .i64 n] 58) := ⟨_, rfl⟩
  obtain ⟨x0_0, x1_0, x2_0, x3_0⟩ := box4 W (.int .i64 1) (.string nm) (.bool p) (.int .i64 n) 58
  rw [← hW0] at x0_0 x1_0 x2_0 x3_0
  have H0 : Hid (Wr b (ts ++ []) v0 W0) := by
    rw [hW0, List.append_nil]; exact h.alloc _
  have K0 : Hid (WK b v0 v0 W W0) := by rw [hW0]; exact WK.of_below (al1 _ _) b v0
  have hz0 : W0.heap.size = W.heap.size + 1 := by rw [hW0]; simp
  have hlt0 : b < W0.heap.size := H0.out.lt
  have hf0 : Hid (Off b v0 W.heap.size) := h.own (Nat.le_refl _)
  have hx0 : W.heap.size < W0.heap.size := by omega
  clear h 
  generalize hkb : W.heap.size = kb at *
  go_enter Tryz.func60, Tryz.ntmps60
  go_upto_region 1 with fail
  rw [← hW0]
  clear hW0
  go_wp2_with fail
  refine (pub_w p b _ v0 W0 H0.out (by simp; omega)).mono ?_
  rintro e W1 ⟨v1, rfl, hh, kk⟩
  have H1 : Hid (Wr b (ts ++ (pubT p)) v1 W1) := by
    have := hh
    rw [List.append_assoc] at this
    exact this
  have K1 := hid (K0.out.trans kk)
  have hlt1 := hh.lt
  have hz1 := kk.size
  have x0_1 := (kk.cell (off := 0) hx0 hf0.out).trans x0_0
  have x1_1 := (kk.cell (off := 1) hx0 hf0.out).trans x1_0
  have x2_1 := (kk.cell (off := 2) hx0 hf0.out).trans x2_0
  have x3_1 := (kk.cell (off := 3) hx0 hf0.out).trans x3_0
  have hf1 := hid (kk.off hx0 hf0.out)
  have hx1 : kb < W1.heap.size := Nat.lt_of_lt_of_le hx0 kk.size
  clear hh kk
  clear x0_0 x1_0 x2_0 x3_0
  go_wp2_with fail
  refine (put3 b _ tConst nm tEq _ v1 W1 (by omega) H1.out (by decide) hnf (by decide) (by simp; omega)).mono ?_
  rintro e W2 ⟨v2, rfl, hh, kk⟩
  have H2 : Hid (Wr b (ts ++ (pubT p ++ [pTk tConst, pTk nm, pTk tEq])) v2 W2) := by
    have := hh
    rw [List.append_assoc] at this
    exact this
  have K2 := hid (K1.out.trans kk)
  have hlt2 := hh.lt
  have hz2 := kk.size
  have x0_2 := (kk.cell (off := 0) hx1 hf1.out).trans x0_1
  have x1_2 := (kk.cell (off := 1) hx1 hf1.out).trans x1_1
  have x2_2 := (kk.cell (off := 2) hx1 hf1.out).trans x2_1
  have x3_2 := (kk.cell (off := 3) hx1 hf1.out).trans x3_1
  have hf2 := hid (kk.off hx1 hf1.out)
  have hx2 : kb < W2.heap.size := Nat.lt_of_lt_of_le hx1 kk.size
  clear hh kk
  clear x0_1 x1_1 x2_1 x3_1
  go_wp2_with fail
  refine (number_any_w b _ v2 n W2 H2.out (by simp; omega)).mono ?_
  rintro e W3 ⟨v3, rfl, hh, kk⟩
  have H3 : Hid (Wr b (ts ++ (pubT p ++ [pTk tConst, pTk nm, pTk tEq] ++ [nTk n])) v3 W3) := by
    have := hh
    rw [List.append_assoc] at this
    exact this
  have K3 := hid (K2.out.trans kk)
  have hlt3 := hh.lt
  have hz3 := kk.size
  have x0_3 := (kk.cell (off := 0) hx2 hf2.out).trans x0_2
  have x1_3 := (kk.cell (off := 1) hx2 hf2.out).trans x1_2
  have x2_3 := (kk.cell (off := 2) hx2 hf2.out).trans x2_2
  have x3_3 := (kk.cell (off := 3) hx2 hf2.out).trans x3_2
  have hf3 := hid (kk.off hx2 hf2.out)
  have hx3 : kb < W3.heap.size := Nat.lt_of_lt_of_le hx2 kk.size
  clear hh kk
  clear x0_2 x1_2 x2_2 x3_2
  go_wp2_with fail
  refine (put1 b _ tSem _ v3 W3 (by omega) H3.out (by decide) (by simp; omega)).mono ?_
  rintro e W4 ⟨v4, rfl, hh, kk⟩
  have H4 : Hid (Wr b (ts ++ (pubT p ++ [pTk tConst, pTk nm, pTk tEq] ++ [nTk n] ++ [pTk tSem])) v4 W4) := by
    have := hh
    rw [List.append_assoc] at this
    exact this
  have K4 := hid (K3.out.trans kk)
  have hlt4 := hh.lt
  have hz4 := kk.size
  have x0_4 := (kk.cell (off := 0) hx3 hf3.out).trans x0_3
  have x1_4 := (kk.cell (off := 1) hx3 hf3.out).trans x1_3
  have x2_4 := (kk.cell (off := 2) hx3 hf3.out).trans x2_3
  have x3_4 := (kk.cell (off := 3) hx3 hf3.out).trans x3_3
  have hf4 := hid (kk.off hx3 hf3.out)
  have hx4 : kb < W4.heap.size := Nat.lt_of_lt_of_le hx3 kk.size
  clear hh kk
  clear x0_3 x1_3 x2_3 x3_3
  go_wp2_with fail
  go_end0
  exact ⟨v4, rfl, by rw [HE.out]; exact H4.out, K4.out⟩
set_option maxRecDepth 100000 in
set_option maxHeartbeats 1600000 in
theorem decl_2 (n : Int) (nm : ByteArray) (p : Bool) (hn : nameOk nm = true) (b : Nat) (ts : List Tk) (v0 : Value) (W : World) (h : Wr b ts v0 W) (hl : ts.length + (pubT p).length + 3 ≤ 4000000000000) :
    Calls Tryz.prog 60 #[.pointer (some ⟨b, 0, none⟩), .agg #[.int .i64 2, .string nm, .bool p, .int .i64 n]] W (WEnd b ts v0 W (pubT p ++ [kTk tVar, wTk nm, kTk tSem])) := by
  have HE : Hid (pubT p ++ [kTk tVar, wTk nm, kTk tSem] = pubT p ++ [pTk tVar, pTk nm] ++ [pTk tSem]) := by
    show _ = _
    rw [pn hn, pk (t := tVar) (by decide), pk (t := tSem) (by decide)]; simp
  have hnf := name_fit hn
  obtain ⟨W0, hW0⟩ : ∃ W0, W0 = W.alloc (.cells #[.int .i64 2, .string nm, .bool p, .int .i64 n] 58) := ⟨_, rfl⟩
  obtain ⟨x0_0, x1_0, x2_0, x3_0⟩ := box4 W (.int .i64 2) (.string nm) (.bool p) (.int .i64 n) 58
  rw [← hW0] at x0_0 x1_0 x2_0 x3_0
  have H0 : Hid (Wr b (ts ++ []) v0 W0) := by
    rw [hW0, List.append_nil]; exact h.alloc _
  have K0 : Hid (WK b v0 v0 W W0) := by rw [hW0]; exact WK.of_below (al1 _ _) b v0
  have hz0 : W0.heap.size = W.heap.size + 1 := by rw [hW0]; simp
  have hlt0 : b < W0.heap.size := H0.out.lt
  have hf0 : Hid (Off b v0 W.heap.size) := h.own (Nat.le_refl _)
  have hx0 : W.heap.size < W0.heap.size := by omega
  clear h 
  generalize hkb : W.heap.size = kb at *
  go_enter Tryz.func60, Tryz.ntmps60
  go_upto_region 1 with fail
  rw [← hW0]
  clear hW0
  go_wp2_with fail
  refine (pub_w p b _ v0 W0 H0.out (by simp; omega)).mono ?_
  rintro e W1 ⟨v1, rfl, hh, kk⟩
  have H1 : Hid (Wr b (ts ++ (pubT p)) v1 W1) := by
    have := hh
    rw [List.append_assoc] at this
    exact this
  have K1 := hid (K0.out.trans kk)
  have hlt1 := hh.lt
  have hz1 := kk.size
  have x0_1 := (kk.cell (off := 0) hx0 hf0.out).trans x0_0
  have x1_1 := (kk.cell (off := 1) hx0 hf0.out).trans x1_0
  have x2_1 := (kk.cell (off := 2) hx0 hf0.out).trans x2_0
  have x3_1 := (kk.cell (off := 3) hx0 hf0.out).trans x3_0
  have hf1 := hid (kk.off hx0 hf0.out)
  have hx1 : kb < W1.heap.size := Nat.lt_of_lt_of_le hx0 kk.size
  clear hh kk
  clear x0_0 x1_0 x2_0 x3_0
  go_wp2_with fail
  refine (put2 b _ tVar nm _ v1 W1 (by omega) H1.out (by decide) hnf (by simp; omega)).mono ?_
  rintro e W2 ⟨v2, rfl, hh, kk⟩
  have H2 : Hid (Wr b (ts ++ (pubT p ++ [pTk tVar, pTk nm])) v2 W2) := by
    have := hh
    rw [List.append_assoc] at this
    exact this
  have K2 := hid (K1.out.trans kk)
  have hlt2 := hh.lt
  have hz2 := kk.size
  have x0_2 := (kk.cell (off := 0) hx1 hf1.out).trans x0_1
  have x1_2 := (kk.cell (off := 1) hx1 hf1.out).trans x1_1
  have x2_2 := (kk.cell (off := 2) hx1 hf1.out).trans x2_1
  have x3_2 := (kk.cell (off := 3) hx1 hf1.out).trans x3_1
  have hf2 := hid (kk.off hx1 hf1.out)
  have hx2 : kb < W2.heap.size := Nat.lt_of_lt_of_le hx1 kk.size
  clear hh kk
  clear x0_1 x1_1 x2_1 x3_1
  go_wp2_with fail
  refine (put1 b _ tSem _ v2 W2 (by omega) H2.out (by decide) (by simp; omega)).mono ?_
  rintro e W3 ⟨v3, rfl, hh, kk⟩
  have H3 : Hid (Wr b (ts ++ (pubT p ++ [pTk tVar, pTk nm] ++ [pTk tSem])) v3 W3) := by
    have := hh
    rw [List.append_assoc] at this
    exact this
  have K3 := hid (K2.out.trans kk)
  have hlt3 := hh.lt
  have hz3 := kk.size
  have x0_3 := (kk.cell (off := 0) hx2 hf2.out).trans x0_2
  have x1_3 := (kk.cell (off := 1) hx2 hf2.out).trans x1_2
  have x2_3 := (kk.cell (off := 2) hx2 hf2.out).trans x2_2
  have x3_3 := (kk.cell (off := 3) hx2 hf2.out).trans x3_2
  have hf3 := hid (kk.off hx2 hf2.out)
  have hx3 : kb < W3.heap.size := Nat.lt_of_lt_of_le hx2 kk.size
  clear hh kk
  clear x0_2 x1_2 x2_2 x3_2
  go_wp2_with fail
  go_end0
  exact ⟨v3, rfl, by rw [HE.out]; exact H3.out, K3.out⟩
set_option maxRecDepth 100000 in
set_option maxHeartbeats 1600000 in
theorem decl_3 (n : Int) (nm : ByteArray) (p : Bool) (hn : nameOk nm = true) (b : Nat) (ts : List Tk) (v0 : Value) (W : World) (h : Wr b ts v0 W) (hl : ts.length + (pubT p).length + 6 ≤ 4000000000000) :
    Calls Tryz.prog 60 #[.pointer (some ⟨b, 0, none⟩), .agg #[.int .i64 3, .string nm, .bool p, .int .i64 n]] W (WEnd b ts v0 W (pubT p ++ [kTk tArray, wTk nm, kTk tLs, nTk n, kTk tRs, kTk tSem])) := by
  have HE : Hid (pubT p ++ [kTk tArray, wTk nm, kTk tLs, nTk n, kTk tRs, kTk tSem] = pubT p ++ [pTk tArray, pTk nm, pTk tLs] ++ [nTk n] ++ [pTk tRs] ++ [pTk tSem]) := by
    show _ = _
    rw [pn hn, pk (t := tArray) (by decide), pk (t := tLs) (by decide), pk (t := tRs) (by decide), pk (t := tSem) (by decide)]; simp
  have hnf := name_fit hn
  obtain ⟨W0, hW0⟩ : ∃ W0, W0 = W.alloc (.cells #[.int .i64 3, .string nm, .bool p, .int .i64 n] 58) := ⟨_, rfl⟩
  obtain ⟨x0_0, x1_0, x2_0, x3_0⟩ := box4 W (.int .i64 3) (.string nm) (.bool p) (.int .i64 n) 58
  rw [← hW0] at x0_0 x1_0 x2_0 x3_0
  have H0 : Hid (Wr b (ts ++ []) v0 W0) := by
    rw [hW0, List.append_nil]; exact h.alloc _
  have K0 : Hid (WK b v0 v0 W W0) := by rw [hW0]; exact WK.of_below (al1 _ _) b v0
  have hz0 : W0.heap.size = W.heap.size + 1 := by rw [hW0]; simp
  have hlt0 : b < W0.heap.size := H0.out.lt
  have hf0 : Hid (Off b v0 W.heap.size) := h.own (Nat.le_refl _)
  have hx0 : W.heap.size < W0.heap.size := by omega
  clear h 
  generalize hkb : W.heap.size = kb at *
  go_enter Tryz.func60, Tryz.ntmps60
  go_upto_region 1 with fail
  rw [← hW0]
  clear hW0
  go_wp2_with fail
  refine (pub_w p b _ v0 W0 H0.out (by simp; omega)).mono ?_
  rintro e W1 ⟨v1, rfl, hh, kk⟩
  have H1 : Hid (Wr b (ts ++ (pubT p)) v1 W1) := by
    have := hh
    rw [List.append_assoc] at this
    exact this
  have K1 := hid (K0.out.trans kk)
  have hlt1 := hh.lt
  have hz1 := kk.size
  have x0_1 := (kk.cell (off := 0) hx0 hf0.out).trans x0_0
  have x1_1 := (kk.cell (off := 1) hx0 hf0.out).trans x1_0
  have x2_1 := (kk.cell (off := 2) hx0 hf0.out).trans x2_0
  have x3_1 := (kk.cell (off := 3) hx0 hf0.out).trans x3_0
  have hf1 := hid (kk.off hx0 hf0.out)
  have hx1 : kb < W1.heap.size := Nat.lt_of_lt_of_le hx0 kk.size
  clear hh kk
  clear x0_0 x1_0 x2_0 x3_0
  go_wp2_with fail
  refine (put3 b _ tArray nm tLs _ v1 W1 (by omega) H1.out (by decide) hnf (by decide) (by simp; omega)).mono ?_
  rintro e W2 ⟨v2, rfl, hh, kk⟩
  have H2 : Hid (Wr b (ts ++ (pubT p ++ [pTk tArray, pTk nm, pTk tLs])) v2 W2) := by
    have := hh
    rw [List.append_assoc] at this
    exact this
  have K2 := hid (K1.out.trans kk)
  have hlt2 := hh.lt
  have hz2 := kk.size
  have x0_2 := (kk.cell (off := 0) hx1 hf1.out).trans x0_1
  have x1_2 := (kk.cell (off := 1) hx1 hf1.out).trans x1_1
  have x2_2 := (kk.cell (off := 2) hx1 hf1.out).trans x2_1
  have x3_2 := (kk.cell (off := 3) hx1 hf1.out).trans x3_1
  have hf2 := hid (kk.off hx1 hf1.out)
  have hx2 : kb < W2.heap.size := Nat.lt_of_lt_of_le hx1 kk.size
  clear hh kk
  clear x0_1 x1_1 x2_1 x3_1
  go_wp2_with fail
  refine (number_any_w b _ v2 n W2 H2.out (by simp; omega)).mono ?_
  rintro e W3 ⟨v3, rfl, hh, kk⟩
  have H3 : Hid (Wr b (ts ++ (pubT p ++ [pTk tArray, pTk nm, pTk tLs] ++ [nTk n])) v3 W3) := by
    have := hh
    rw [List.append_assoc] at this
    exact this
  have K3 := hid (K2.out.trans kk)
  have hlt3 := hh.lt
  have hz3 := kk.size
  have x0_3 := (kk.cell (off := 0) hx2 hf2.out).trans x0_2
  have x1_3 := (kk.cell (off := 1) hx2 hf2.out).trans x1_2
  have x2_3 := (kk.cell (off := 2) hx2 hf2.out).trans x2_2
  have x3_3 := (kk.cell (off := 3) hx2 hf2.out).trans x3_2
  have hf3 := hid (kk.off hx2 hf2.out)
  have hx3 : kb < W3.heap.size := Nat.lt_of_lt_of_le hx2 kk.size
  clear hh kk
  clear x0_2 x1_2 x2_2 x3_2
  go_wp2_with fail
  refine (put1 b _ tRs _ v3 W3 (by omega) H3.out (by decide) (by simp; omega)).mono ?_
  rintro e W4 ⟨v4, rfl, hh, kk⟩
  have H4 : Hid (Wr b (ts ++ (pubT p ++ [pTk tArray, pTk nm, pTk tLs] ++ [nTk n] ++ [pTk tRs])) v4 W4) := by
    have := hh
    rw [List.append_assoc] at this
    exact this
  have K4 := hid (K3.out.trans kk)
  have hlt4 := hh.lt
  have hz4 := kk.size
  have x0_4 := (kk.cell (off := 0) hx3 hf3.out).trans x0_3
  have x1_4 := (kk.cell (off := 1) hx3 hf3.out).trans x1_3
  have x2_4 := (kk.cell (off := 2) hx3 hf3.out).trans x2_3
  have x3_4 := (kk.cell (off := 3) hx3 hf3.out).trans x3_3
  have hf4 := hid (kk.off hx3 hf3.out)
  have hx4 : kb < W4.heap.size := Nat.lt_of_lt_of_le hx3 kk.size
  clear hh kk
  clear x0_3 x1_3 x2_3 x3_3
  go_wp2_with fail
  refine (put1 b _ tSem _ v4 W4 (by omega) H4.out (by decide) (by simp; omega)).mono ?_
  rintro e W5 ⟨v5, rfl, hh, kk⟩
  have H5 : Hid (Wr b (ts ++ (pubT p ++ [pTk tArray, pTk nm, pTk tLs] ++ [nTk n] ++ [pTk tRs] ++ [pTk tSem])) v5 W5) := by
    have := hh
    rw [List.append_assoc] at this
    exact this
  have K5 := hid (K4.out.trans kk)
  have hlt5 := hh.lt
  have hz5 := kk.size
  have x0_5 := (kk.cell (off := 0) hx4 hf4.out).trans x0_4
  have x1_5 := (kk.cell (off := 1) hx4 hf4.out).trans x1_4
  have x2_5 := (kk.cell (off := 2) hx4 hf4.out).trans x2_4
  have x3_5 := (kk.cell (off := 3) hx4 hf4.out).trans x3_4
  have hf5 := hid (kk.off hx4 hf4.out)
  have hx5 : kb < W5.heap.size := Nat.lt_of_lt_of_le hx4 kk.size
  clear hh kk
  clear x0_4 x1_4 x2_4 x3_4
  go_wp2_with fail
  go_end0
  exact ⟨v5, rfl, by rw [HE.out]; exact H5.out, K5.out⟩
theorem decl_w {d : De} (h1 : nameOk d.name = true) (h3 : 1 ≤ d.kind) (h4 : d.kind ≤ 3) (b : Nat) (ts : List Tk) (v : Value) (W : World) (h : Wr b ts v W) (hl : ts.length + (tD d).length ≤ 4000000000000) :
    Calls Tryz.prog 60 #[.pointer (some ⟨b, 0, none⟩), .agg #[.int .i64 d.kind, .string d.name, .bool d.pub, .int .i64 d.n]] W (WEnd b ts v W (tD d)) := by
  obtain ⟨k, nm, p, n⟩ := d
  simp only at *
  have hk : k = 1 ∨ k = 2 ∨ k = 3 := by omega
  rcases hk with rfl | rfl | rfl
  · have e : tD ⟨1, nm, p, n⟩ = pubT p ++ [kTk tConst, wTk nm, kTk tEq, nTk n, kTk tSem] := by simp [tD]
    rw [e] at hl ⊢
    exact decl_1 n nm p h1 b ts v W h (by simp at hl; omega)
  · have e : tD ⟨2, nm, p, n⟩ = pubT p ++ [kTk tVar, wTk nm, kTk tSem] := by simp [tD]
    rw [e] at hl ⊢
    exact decl_2 n nm p h1 b ts v W h (by simp at hl; omega)
  · have e : tD ⟨3, nm, p, n⟩ = pubT p ++ [kTk tArray, wTk nm, kTk tLs, nTk n, kTk tRs, kTk tSem] := by simp [tD]
    rw [e] at hl ⊢
    exact decl_3 n nm p h1 b ts v W h (by simp at hl; omega)
end Go.Proofs.YtcekpobmbmnplaaGreatDoor
