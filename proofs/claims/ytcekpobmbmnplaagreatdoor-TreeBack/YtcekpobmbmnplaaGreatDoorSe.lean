/-
  The writer: any right expression; lines.
-/
import Derived.Test.YtcekpobmbmnplaaGreatDoorSd
namespace Go.Proofs.YtcekpobmbmnplaaGreatDoor
open Go.RowKit Go.Shelf

theorem count_one {l : List Ex} {sh : Sh} (h : countOk sh l.length = true) (h1 : sh.least = 1) (h2 : sh.most = 1) : ∃ x, l = [x] := by
  unfold countOk at h
  rw [h1, h2] at h
  simp at h
  match l, h with
  | [x], _ => exact ⟨x, rfl⟩
  | [], h => simp at h
  | x :: y :: r, h => simp at h; omega
theorem count_two {l : List Ex} {sh : Sh} (h : countOk sh l.length = true) (h1 : sh.least = 2) (h2 : sh.most = 2) : ∃ x y, l = [x, y] := by
  unfold countOk at h
  rw [h1, h2] at h
  simp at h
  match l, h with
  | [x, y], _ => exact ⟨x, y, rfl⟩
  | [], h => simp at h
  | [x], h => simp at h
  | x :: y :: z :: r, h => simp at h; omega
theorem count_le {n : Nat} {sh : Sh} (h : countOk sh n = true) (h2 : sh.most ≤ 3) : n ≤ 3 := by
  unfold countOk at h
  simp at h
  omega
theorem expr_w {x : Ex} (h : exOk x) : WrE x := by
  induction h with
  | @mk op n m nm args h1 h2 h3 h4 h5 ih =>
    intro b ts v W aa cap hW hA hm hnm hl
    simp only [Ex.op, Ex.n, Ex.mod, Ex.name, Ex.args] at *
    rcases ex_ops h1 with rfl | rfl | rfl | rfl | rfl | rfl | hop
    · simp only [tE, exTok] at hl ⊢
      exact expr_1 n m nm args.length b ts v W aa cap hW (by simpa using hl)
    · simp only [tE, exTok] at hl ⊢
      exact expr_2 n m nm args.length b ts v W aa cap hW (by simpa using hl)
    · obtain ⟨r1, r2⟩ := ref_ok rfl h2
      simp only [tE, exTok] at hl ⊢
      exact expr_3 n m nm args.length b ts v W aa cap hW r1 r2 (by simpa using hl)
    · obtain ⟨r1, r2⟩ := ref_ok rfl h2
      obtain ⟨x, rfl⟩ := count_one h4 rfl rfl
      have e : tE (.mk 4 n m nm [x]) = refT m nm ++ kTk tLs :: (tE x ++ [kTk tRs]) := by simp [tE, tEs, exTok]
      rw [e] at hl ⊢
      exact expr_4 n m nm x (ih x (by simp)) b ts v W aa cap hW hA r1 r2 (by simp at hl; omega)
    · obtain ⟨r1, r2⟩ := ref_ok rfl h2
      have e : tE (.mk 5 n m nm args) = refT m nm ++ kTk tLp :: (commas (tEs args) ++ [kTk tRp]) := by simp [tE, exTok]
      rw [e] at hl ⊢
      exact expr_5 n m nm args ih (by have := count_le h4 (by decide); omega) b ts v W aa cap hW hA r1 r2 (by simp at hl; omega)
    · obtain ⟨x, rfl⟩ := count_one h4 rfl rfl
      have e : tE (.mk 6 n m nm [x]) = kTk tNot :: tE x := by simp [tE, tEs, exTok]
      rw [e] at hl ⊢
      exact expr_6 n m nm x (ih x (by simp)) b ts v W aa cap hW hA (by simp at hl; omega)
    · have ho : op = 7 ∨ op = 8 ∨ op = 9 ∨ op = 10 ∨ op = 11 ∨ op = 12 ∨ op = 13 ∨ op = 14 ∨ op = 15 := by omega
      rcases ho with rfl | rfl | rfl | rfl | rfl | rfl | rfl | rfl | rfl
      · obtain ⟨x, y, rfl⟩ := count_two h4 rfl rfl
        have e : tE (.mk 7 n m nm [x, y]) = kTk tLp :: (tE x ++ opTk 7 :: (tE y ++ [kTk tRp])) := by simp [tE, tEs, exTok]
        rw [e] at hl ⊢
        exact expr_7 n m nm x y (ih x (by simp)) (ih y (by simp)) b ts v W aa cap hW hA (by simp at hl; omega)
      · obtain ⟨x, y, rfl⟩ := count_two h4 rfl rfl
        have e : tE (.mk 8 n m nm [x, y]) = kTk tLp :: (tE x ++ opTk 8 :: (tE y ++ [kTk tRp])) := by simp [tE, tEs, exTok]
        rw [e] at hl ⊢
        exact expr_8 n m nm x y (ih x (by simp)) (ih y (by simp)) b ts v W aa cap hW hA (by simp at hl; omega)
      · obtain ⟨x, y, rfl⟩ := count_two h4 rfl rfl
        have e : tE (.mk 9 n m nm [x, y]) = kTk tLp :: (tE x ++ opTk 9 :: (tE y ++ [kTk tRp])) := by simp [tE, tEs, exTok]
        rw [e] at hl ⊢
        exact expr_9 n m nm x y (ih x (by simp)) (ih y (by simp)) b ts v W aa cap hW hA (by simp at hl; omega)
      · obtain ⟨x, y, rfl⟩ := count_two h4 rfl rfl
        have e : tE (.mk 10 n m nm [x, y]) = kTk tLp :: (tE x ++ opTk 10 :: (tE y ++ [kTk tRp])) := by simp [tE, tEs, exTok]
        rw [e] at hl ⊢
        exact expr_10 n m nm x y (ih x (by simp)) (ih y (by simp)) b ts v W aa cap hW hA (by simp at hl; omega)
      · obtain ⟨x, y, rfl⟩ := count_two h4 rfl rfl
        have e : tE (.mk 11 n m nm [x, y]) = kTk tLp :: (tE x ++ opTk 11 :: (tE y ++ [kTk tRp])) := by simp [tE, tEs, exTok]
        rw [e] at hl ⊢
        exact expr_11 n m nm x y (ih x (by simp)) (ih y (by simp)) b ts v W aa cap hW hA (by simp at hl; omega)
      · obtain ⟨x, y, rfl⟩ := count_two h4 rfl rfl
        have e : tE (.mk 12 n m nm [x, y]) = kTk tLp :: (tE x ++ opTk 12 :: (tE y ++ [kTk tRp])) := by simp [tE, tEs, exTok]
        rw [e] at hl ⊢
        exact expr_12 n m nm x y (ih x (by simp)) (ih y (by simp)) b ts v W aa cap hW hA (by simp at hl; omega)
      · obtain ⟨x, y, rfl⟩ := count_two h4 rfl rfl
        have e : tE (.mk 13 n m nm [x, y]) = kTk tLp :: (tE x ++ opTk 13 :: (tE y ++ [kTk tRp])) := by simp [tE, tEs, exTok]
        rw [e] at hl ⊢
        exact expr_13 n m nm x y (ih x (by simp)) (ih y (by simp)) b ts v W aa cap hW hA (by simp at hl; omega)
      · obtain ⟨x, y, rfl⟩ := count_two h4 rfl rfl
        have e : tE (.mk 14 n m nm [x, y]) = kTk tLp :: (tE x ++ opTk 14 :: (tE y ++ [kTk tRp])) := by simp [tE, tEs, exTok]
        rw [e] at hl ⊢
        exact expr_14 n m nm x y (ih x (by simp)) (ih y (by simp)) b ts v W aa cap hW hA (by simp at hl; omega)
      · obtain ⟨x, y, rfl⟩ := count_two h4 rfl rfl
        have e : tE (.mk 15 n m nm [x, y]) = kTk tLp :: (tE x ++ opTk 15 :: (tE y ++ [kTk tRp])) := by simp [tE, tEs, exTok]
        rw [e] at hl ⊢
        exact expr_15 n m nm x y (ih x (by simp)) (ih y (by simp)) b ts v W aa cap hW hA (by simp at hl; omega)
set_option maxRecDepth 100000 in
set_option maxHeartbeats 1600000 in
theorem line_1 (m nm : ByteArray) (vb vo : Value) (x : Ex) (hX : WrE x) (b : Nat) (ts : List Tk) (v0 : Value) (W : World) (aa : Option Addr) (cap : Nat) (h : Wr b ts v0 W) (hA : DAt W (Off b v0) aa 1 (exsD [x])) (hn : nameOk nm = true) (hmm : m.size = 0 ∨ nameOk m = true) (hl : ts.length + (refT m nm).length + (tE x).length + 1 ≤ 4000000000000) :
    Calls Tryz.prog 125 #[.pointer (some ⟨b, 0, none⟩), .agg #[.int .i64 1, .string m, .string nm, .slice aa 1 cap, vb, vo]] W (WEnd b ts v0 W (refT m nm ++ kTk tEq :: tE x)) := by
  have HE : Hid (refT m nm ++ kTk tEq :: tE x = refT m nm ++ [pTk tEq] ++ tE x) := by
    show _ = _
    rw [pk (t := tEq) (by decide)]; simp
  have HX := hid hX
  clear hX
  obtain ⟨W0, hW0⟩ : ∃ W0, W0 = W.alloc (.cells #[.int .i64 1, .string m, .string nm, .slice aa 1 cap, vb, vo] 47) := ⟨_, rfl⟩
  obtain ⟨x0_0, x1_0, x2_0, x3_0, x4_0, x5_0⟩ := box6 W (.int .i64 1) (.string m) (.string nm) (.slice aa 1 cap) (vb) (vo) 47
  rw [← hW0] at x0_0 x1_0 x2_0 x3_0 x4_0 x5_0
  have H0 : Hid (Wr b (ts ++ []) v0 W0) := by
    rw [hW0, List.append_nil]; exact h.alloc _
  have K0 : Hid (WK b v0 v0 W W0) := by rw [hW0]; exact WK.of_below (al1 _ _) b v0
  have hz0 : W0.heap.size = W.heap.size + 1 := by rw [hW0]; simp
  have hlt0 : b < W0.heap.size := H0.out.lt
  have hf0 : Hid (Off b v0 W.heap.size) := h.own (Nat.le_refl _)
  have hx0 : W.heap.size < W0.heap.size := by omega
  have DA0 : Hid (DAt W0 (Off b v0) aa 1 (exsD [x])) := by rw [hW0]; exact hA.moves (Moves.of_below (al1 _ _) _)
  clear h hA
  generalize hkb : W.heap.size = kb at *
  go_enter Tryz.func125, Tryz.ntmps125
  go_upto_region 1 with fail
  rw [← hW0]
  clear hW0
  go_wp2_with fail
  refine (ref_w b m nm _ v0 W0 H0.out hn hmm (by simp; omega)).mono ?_
  rintro e W1 ⟨v1, rfl, hh, kk⟩
  have H1 : Hid (Wr b (ts ++ (refT m nm)) v1 W1) := by
    have := hh
    rw [List.append_assoc] at this
    exact this
  have K1 := hid (K0.out.trans kk)
  have hlt1 := hh.lt
  have hz1 := kk.size
  have DA1 := hid (DA0.out.moves kk.moves)
  have x0_1 := (kk.cell (off := 0) hx0 hf0.out).trans x0_0
  have x1_1 := (kk.cell (off := 1) hx0 hf0.out).trans x1_0
  have x2_1 := (kk.cell (off := 2) hx0 hf0.out).trans x2_0
  have x3_1 := (kk.cell (off := 3) hx0 hf0.out).trans x3_0
  have x4_1 := (kk.cell (off := 4) hx0 hf0.out).trans x4_0
  have x5_1 := (kk.cell (off := 5) hx0 hf0.out).trans x5_0
  have hf1 := hid (kk.off hx0 hf0.out)
  have hx1 : kb < W1.heap.size := Nat.lt_of_lt_of_le hx0 kk.size
  clear hh kk
  clear x0_0 x1_0 x2_0 x3_0 x4_0 x5_0
  go_wp2_with fail
  refine (put1 b _ tEq _ v1 W1 (by omega) H1.out (by decide) (by simp; omega)).mono ?_
  rintro e W2 ⟨v2, rfl, hh, kk⟩
  have H2 : Hid (Wr b (ts ++ (refT m nm ++ [pTk tEq])) v2 W2) := by
    have := hh
    rw [List.append_assoc] at this
    exact this
  have K2 := hid (K1.out.trans kk)
  have hlt2 := hh.lt
  have hz2 := kk.size
  have DA2 := hid (DA1.out.moves kk.moves)
  have x0_2 := (kk.cell (off := 0) hx1 hf1.out).trans x0_1
  have x1_2 := (kk.cell (off := 1) hx1 hf1.out).trans x1_1
  have x2_2 := (kk.cell (off := 2) hx1 hf1.out).trans x2_1
  have x3_2 := (kk.cell (off := 3) hx1 hf1.out).trans x3_1
  have x4_2 := (kk.cell (off := 4) hx1 hf1.out).trans x4_1
  have x5_2 := (kk.cell (off := 5) hx1 hf1.out).trans x5_1
  have hf2 := hid (kk.off hx1 hf1.out)
  have hx2 : kb < W2.heap.size := Nat.lt_of_lt_of_le hx1 kk.size
  clear hh kk
  clear x0_1 x1_1 x2_1 x3_1 x4_1 x5_1
  obtain ⟨eb0, eo0, ea0, ec0, he0, hx0'⟩ := DA2.out.ex (l := [x]) 0 (by simp)
  subst he0
  have hx0 : ExAt W2 (Off b v2) eb0 (eo0 + 0 * 5) x ea0 ec0 := hx0'
  have q00 := hx0.c0
  have q01 := hx0.c1
  have q02 := hx0.c2
  have q03 := hx0.c3
  have q04 := hx0.c4
  rw [Nat.zero_mul, Nat.add_zero] at q00 q01 q02 q03 q04
  have hle0 := hx0.lt
  have HEx0 := hid hx0
  clear hx0 hx0'
  go_wp2_with fail
  refine (HX.out b _ v2 W2 ea0 ec0 H2.out HEx0.out.args HEx0.out.wm HEx0.out.wna (by simp; omega)).mono ?_
  rintro e W3 ⟨v3, rfl, hh, kk⟩
  have H3 : Hid (Wr b (ts ++ (refT m nm ++ [pTk tEq] ++ tE x)) v3 W3) := by
    have := hh
    rw [List.append_assoc] at this
    exact this
  have K3 := hid (K2.out.trans kk)
  have hlt3 := hh.lt
  have hz3 := kk.size
  have DA3 := hid (DA2.out.moves kk.moves)
  have x0_3 := (kk.cell (off := 0) hx2 hf2.out).trans x0_2
  have x1_3 := (kk.cell (off := 1) hx2 hf2.out).trans x1_2
  have x2_3 := (kk.cell (off := 2) hx2 hf2.out).trans x2_2
  have x3_3 := (kk.cell (off := 3) hx2 hf2.out).trans x3_2
  have x4_3 := (kk.cell (off := 4) hx2 hf2.out).trans x4_2
  have x5_3 := (kk.cell (off := 5) hx2 hf2.out).trans x5_2
  have hf3 := hid (kk.off hx2 hf2.out)
  have hx3 : kb < W3.heap.size := Nat.lt_of_lt_of_le hx2 kk.size
  clear hh kk
  clear x0_2 x1_2 x2_2 x3_2 x4_2 x5_2
  go_wp2_with fail
  go_end0
  exact ⟨v3, rfl, by rw [HE.out]; exact H3.out, K3.out⟩
set_option maxRecDepth 100000 in
set_option maxHeartbeats 1600000 in
theorem line_2 (m nm : ByteArray) (vb vo : Value) (x y : Ex) (hX : WrE x) (hY : WrE y) (b : Nat) (ts : List Tk) (v0 : Value) (W : World) (aa : Option Addr) (cap : Nat) (h : Wr b ts v0 W) (hA : DAt W (Off b v0) aa 2 (exsD [x, y])) (hn : nameOk nm = true) (hmm : m.size = 0 ∨ nameOk m = true) (hl : ts.length + (refT m nm).length + (tE x).length + (tE y).length + 3 ≤ 4000000000000) :
    Calls Tryz.prog 125 #[.pointer (some ⟨b, 0, none⟩), .agg #[.int .i64 2, .string m, .string nm, .slice aa 2 cap, vb, vo]] W (WEnd b ts v0 W (refT m nm ++ kTk tLs :: (tE x ++ kTk tRs :: kTk tEq :: tE y))) := by
  have HE : Hid (refT m nm ++ kTk tLs :: (tE x ++ kTk tRs :: kTk tEq :: tE y) = refT m nm ++ kTk tLs :: (tE x ++ [kTk tRs]) ++ [pTk tEq] ++ tE y) := by
    show _ = _
    rw [pk (t := tEq) (by decide)]; simp
  have HX := hid hX
  clear hX
  have HY := hid hY
  clear hY
  obtain ⟨W0, hW0⟩ : ∃ W0, W0 = W.alloc (.cells #[.int .i64 2, .string m, .string nm, .slice aa 2 cap, vb, vo] 47) := ⟨_, rfl⟩
  obtain ⟨x0_0, x1_0, x2_0, x3_0, x4_0, x5_0⟩ := box6 W (.int .i64 2) (.string m) (.string nm) (.slice aa 2 cap) (vb) (vo) 47
  rw [← hW0] at x0_0 x1_0 x2_0 x3_0 x4_0 x5_0
  have H0 : Hid (Wr b (ts ++ []) v0 W0) := by
    rw [hW0, List.append_nil]; exact h.alloc _
  have K0 : Hid (WK b v0 v0 W W0) := by rw [hW0]; exact WK.of_below (al1 _ _) b v0
  have hz0 : W0.heap.size = W.heap.size + 1 := by rw [hW0]; simp
  have hlt0 : b < W0.heap.size := H0.out.lt
  have hf0 : Hid (Off b v0 W.heap.size) := h.own (Nat.le_refl _)
  have hx0 : W.heap.size < W0.heap.size := by omega
  have DA0 : Hid (DAt W0 (Off b v0) aa 2 (exsD [x, y])) := by rw [hW0]; exact hA.moves (Moves.of_below (al1 _ _) _)
  clear h hA
  generalize hkb : W.heap.size = kb at *
  go_enter Tryz.func125, Tryz.ntmps125
  go_upto_region 1 with fail
  rw [← hW0]
  clear hW0
  go_wp2_with fail
  refine (ref_w b m nm _ v0 W0 H0.out hn hmm (by simp; omega)).mono ?_
  rintro e W1 ⟨v1, rfl, hh, kk⟩
  have H1 : Hid (Wr b (ts ++ (refT m nm)) v1 W1) := by
    have := hh
    rw [List.append_assoc] at this
    exact this
  have K1 := hid (K0.out.trans kk)
  have hlt1 := hh.lt
  have hz1 := kk.size
  have DA1 := hid (DA0.out.moves kk.moves)
  have x0_1 := (kk.cell (off := 0) hx0 hf0.out).trans x0_0
  have x1_1 := (kk.cell (off := 1) hx0 hf0.out).trans x1_0
  have x2_1 := (kk.cell (off := 2) hx0 hf0.out).trans x2_0
  have x3_1 := (kk.cell (off := 3) hx0 hf0.out).trans x3_0
  have x4_1 := (kk.cell (off := 4) hx0 hf0.out).trans x4_0
  have x5_1 := (kk.cell (off := 5) hx0 hf0.out).trans x5_0
  have hf1 := hid (kk.off hx0 hf0.out)
  have hx1 : kb < W1.heap.size := Nat.lt_of_lt_of_le hx0 kk.size
  clear hh kk
  clear x0_0 x1_0 x2_0 x3_0 x4_0 x5_0
  obtain ⟨eb0, eo0, ea0, ec0, he0, hx0'⟩ := DA1.out.ex (l := [x, y]) 0 (by simp)
  subst he0
  have hx0 : ExAt W1 (Off b v1) eb0 (eo0 + 0 * 5) x ea0 ec0 := hx0'
  have q00 := hx0.c0
  have q01 := hx0.c1
  have q02 := hx0.c2
  have q03 := hx0.c3
  have q04 := hx0.c4
  rw [Nat.zero_mul, Nat.add_zero] at q00 q01 q02 q03 q04
  have hle0 := hx0.lt
  have HEx0 := hid hx0
  clear hx0 hx0'
  go_wp2_with fail
  refine (index_w x HX.out b _ v1 W1 ea0 ec0 H1.out HEx0.out.args HEx0.out.wm HEx0.out.wna (by simp; omega)).mono ?_
  rintro e W2 ⟨v2, rfl, hh, kk⟩
  have H2 : Hid (Wr b (ts ++ (refT m nm ++ kTk tLs :: (tE x ++ [kTk tRs]))) v2 W2) := by
    have := hh
    rw [List.append_assoc] at this
    exact this
  have K2 := hid (K1.out.trans kk)
  have hlt2 := hh.lt
  have hz2 := kk.size
  have DA2 := hid (DA1.out.moves kk.moves)
  have x0_2 := (kk.cell (off := 0) hx1 hf1.out).trans x0_1
  have x1_2 := (kk.cell (off := 1) hx1 hf1.out).trans x1_1
  have x2_2 := (kk.cell (off := 2) hx1 hf1.out).trans x2_1
  have x3_2 := (kk.cell (off := 3) hx1 hf1.out).trans x3_1
  have x4_2 := (kk.cell (off := 4) hx1 hf1.out).trans x4_1
  have x5_2 := (kk.cell (off := 5) hx1 hf1.out).trans x5_1
  have hf2 := hid (kk.off hx1 hf1.out)
  have hx2 : kb < W2.heap.size := Nat.lt_of_lt_of_le hx1 kk.size
  clear hh kk
  clear x0_1 x1_1 x2_1 x3_1 x4_1 x5_1
  clear q00 q01 q02 q03 q04 hle0
  go_wp2_with fail
  refine (put1 b _ tEq _ v2 W2 (by omega) H2.out (by decide) (by simp; omega)).mono ?_
  rintro e W3 ⟨v3, rfl, hh, kk⟩
  have H3 : Hid (Wr b (ts ++ (refT m nm ++ kTk tLs :: (tE x ++ [kTk tRs]) ++ [pTk tEq])) v3 W3) := by
    have := hh
    rw [List.append_assoc] at this
    exact this
  have K3 := hid (K2.out.trans kk)
  have hlt3 := hh.lt
  have hz3 := kk.size
  have DA3 := hid (DA2.out.moves kk.moves)
  have x0_3 := (kk.cell (off := 0) hx2 hf2.out).trans x0_2
  have x1_3 := (kk.cell (off := 1) hx2 hf2.out).trans x1_2
  have x2_3 := (kk.cell (off := 2) hx2 hf2.out).trans x2_2
  have x3_3 := (kk.cell (off := 3) hx2 hf2.out).trans x3_2
  have x4_3 := (kk.cell (off := 4) hx2 hf2.out).trans x4_2
  have x5_3 := (kk.cell (off := 5) hx2 hf2.out).trans x5_2
  have hf3 := hid (kk.off hx2 hf2.out)
  have hx3 : kb < W3.heap.size := Nat.lt_of_lt_of_le hx2 kk.size
  clear hh kk
  clear x0_2 x1_2 x2_2 x3_2 x4_2 x5_2
  obtain ⟨eb1, eo1, ea1, ec1, he1, hx1'⟩ := DA3.out.ex (l := [x, y]) 1 (by simp)
  obtain ⟨rfl, rfl⟩ : eb0 = eb1 ∧ eo0 = eo1 := by cases he1; exact ⟨rfl, rfl⟩
  have hx1 : ExAt W3 (Off b v3) eb0 (eo0 + 1 * 5) y ea1 ec1 := hx1'
  have q10 := hx1.c0
  have q11 := hx1.c1
  have q12 := hx1.c2
  have q13 := hx1.c3
  have q14 := hx1.c4
  rw [Nat.one_mul] at q10 q11 q12 q13 q14
  have hle1 := hx1.lt
  have HEx1 := hid hx1
  clear hx1 hx1'
  go_wp2_with fail
  refine (HY.out b _ v3 W3 ea1 ec1 H3.out HEx1.out.args HEx1.out.wm HEx1.out.wna (by simp; omega)).mono ?_
  rintro e W4 ⟨v4, rfl, hh, kk⟩
  have H4 : Hid (Wr b (ts ++ (refT m nm ++ kTk tLs :: (tE x ++ [kTk tRs]) ++ [pTk tEq] ++ tE y)) v4 W4) := by
    have := hh
    rw [List.append_assoc] at this
    exact this
  have K4 := hid (K3.out.trans kk)
  have hlt4 := hh.lt
  have hz4 := kk.size
  have DA4 := hid (DA3.out.moves kk.moves)
  have x0_4 := (kk.cell (off := 0) hx3 hf3.out).trans x0_3
  have x1_4 := (kk.cell (off := 1) hx3 hf3.out).trans x1_3
  have x2_4 := (kk.cell (off := 2) hx3 hf3.out).trans x2_3
  have x3_4 := (kk.cell (off := 3) hx3 hf3.out).trans x3_3
  have x4_4 := (kk.cell (off := 4) hx3 hf3.out).trans x4_3
  have x5_4 := (kk.cell (off := 5) hx3 hf3.out).trans x5_3
  have hf4 := hid (kk.off hx3 hf3.out)
  have hx4 : kb < W4.heap.size := Nat.lt_of_lt_of_le hx3 kk.size
  clear hh kk
  clear x0_3 x1_3 x2_3 x3_3 x4_3 x5_3
  go_wp2_with fail
  go_end0
  exact ⟨v4, rfl, by rw [HE.out]; exact H4.out, K4.out⟩
set_option maxRecDepth 100000 in
set_option maxHeartbeats 1600000 in
theorem line_3 (m nm : ByteArray) (vb vo : Value) (l : List Ex) (hX : ∀ x ∈ l, WrE x) (h3 : l.length ≤ 100) (b : Nat) (ts : List Tk) (v0 : Value) (W : World) (aa : Option Addr) (cap : Nat) (h : Wr b ts v0 W) (hA : DAt W (Off b v0) aa l.length (exsD l)) (hn : nameOk nm = true) (hmm : m.size = 0 ∨ nameOk m = true) (hl : ts.length + (refT m nm).length + (commas (tEs l)).length + 2 ≤ 4000000000000) :
    Calls Tryz.prog 125 #[.pointer (some ⟨b, 0, none⟩), .agg #[.int .i64 3, .string m, .string nm, .slice aa l.length cap, vb, vo]] W (WEnd b ts v0 W (refT m nm ++ kTk tLp :: (commas (tEs l) ++ [kTk tRp]))) := by
  have HX := hid hX
  clear hX
  obtain ⟨W0, hW0⟩ : ∃ W0, W0 = W.alloc (.cells #[.int .i64 3, .string m, .string nm, .slice aa l.length cap, vb, vo] 47) := ⟨_, rfl⟩
  obtain ⟨x0_0, x1_0, x2_0, x3_0, x4_0, x5_0⟩ := box6 W (.int .i64 3) (.string m) (.string nm) (.slice aa l.length cap) (vb) (vo) 47
  rw [← hW0] at x0_0 x1_0 x2_0 x3_0 x4_0 x5_0
  have H0 : Hid (Wr b (ts ++ []) v0 W0) := by
    rw [hW0, List.append_nil]; exact h.alloc _
  have K0 : Hid (WK b v0 v0 W W0) := by rw [hW0]; exact WK.of_below (al1 _ _) b v0
  have hz0 : W0.heap.size = W.heap.size + 1 := by rw [hW0]; simp
  have hlt0 : b < W0.heap.size := H0.out.lt
  have hf0 : Hid (Off b v0 W.heap.size) := h.own (Nat.le_refl _)
  have hx0 : W.heap.size < W0.heap.size := by omega
  have DA0 : Hid (DAt W0 (Off b v0) aa l.length (exsD l)) := by rw [hW0]; exact hA.moves (Moves.of_below (al1 _ _) _)
  clear h hA
  generalize hkb : W.heap.size = kb at *
  go_enter Tryz.func125, Tryz.ntmps125
  go_upto_region 1 with fail
  rw [← hW0]
  clear hW0
  go_wp2_with fail
  refine (ref_w b m nm _ v0 W0 H0.out hn hmm (by simp; omega)).mono ?_
  rintro e W1 ⟨v1, rfl, hh, kk⟩
  have H1 : Hid (Wr b (ts ++ (refT m nm)) v1 W1) := by
    have := hh
    rw [List.append_assoc] at this
    exact this
  have K1 := hid (K0.out.trans kk)
  have hlt1 := hh.lt
  have hz1 := kk.size
  have DA1 := hid (DA0.out.moves kk.moves)
  have x0_1 := (kk.cell (off := 0) hx0 hf0.out).trans x0_0
  have x1_1 := (kk.cell (off := 1) hx0 hf0.out).trans x1_0
  have x2_1 := (kk.cell (off := 2) hx0 hf0.out).trans x2_0
  have x3_1 := (kk.cell (off := 3) hx0 hf0.out).trans x3_0
  have x4_1 := (kk.cell (off := 4) hx0 hf0.out).trans x4_0
  have x5_1 := (kk.cell (off := 5) hx0 hf0.out).trans x5_0
  have hf1 := hid (kk.off hx0 hf0.out)
  have hx1 : kb < W1.heap.size := Nat.lt_of_lt_of_le hx0 kk.size
  clear hh kk
  clear x0_0 x1_0 x2_0 x3_0 x4_0 x5_0
  go_wp2_with fail
  refine (args_w l HX.out b _ v1 W1 aa cap H1.out DA1.out (by simp; omega) h3).mono ?_
  rintro e W2 ⟨v2, rfl, hh, kk⟩
  have H2 : Hid (Wr b (ts ++ (refT m nm ++ kTk tLp :: (commas (tEs l) ++ [kTk tRp]))) v2 W2) := by
    have := hh
    rw [List.append_assoc] at this
    exact this
  have K2 := hid (K1.out.trans kk)
  have hlt2 := hh.lt
  have hz2 := kk.size
  have DA2 := hid (DA1.out.moves kk.moves)
  have x0_2 := (kk.cell (off := 0) hx1 hf1.out).trans x0_1
  have x1_2 := (kk.cell (off := 1) hx1 hf1.out).trans x1_1
  have x2_2 := (kk.cell (off := 2) hx1 hf1.out).trans x2_1
  have x3_2 := (kk.cell (off := 3) hx1 hf1.out).trans x3_1
  have x4_2 := (kk.cell (off := 4) hx1 hf1.out).trans x4_1
  have x5_2 := (kk.cell (off := 5) hx1 hf1.out).trans x5_1
  have hf2 := hid (kk.off hx1 hf1.out)
  have hx2 : kb < W2.heap.size := Nat.lt_of_lt_of_le hx1 kk.size
  clear hh kk
  clear x0_1 x1_1 x2_1 x3_1 x4_1 x5_1
  go_wp2_with fail
  go_end0
  exact ⟨v2, rfl, H2.out, K2.out⟩
set_option maxRecDepth 100000 in
set_option maxHeartbeats 1600000 in
theorem line_6 (m nm : ByteArray) (vb vo : Value) (x : Ex) (hX : WrE x) (b : Nat) (ts : List Tk) (v0 : Value) (W : World) (aa : Option Addr) (cap : Nat) (h : Wr b ts v0 W) (hA : DAt W (Off b v0) aa 1 (exsD [x])) (hl : ts.length + (tE x).length + 1 ≤ 4000000000000) :
    Calls Tryz.prog 125 #[.pointer (some ⟨b, 0, none⟩), .agg #[.int .i64 6, .string m, .string nm, .slice aa 1 cap, vb, vo]] W (WEnd b ts v0 W (kTk tReturn :: tE x)) := by
  have HE : Hid (kTk tReturn :: tE x = [pTk tReturn] ++ tE x) := by
    show _ = _
    rw [pk (t := tReturn) (by decide)]; rfl
  have HX := hid hX
  clear hX
  obtain ⟨W0, hW0⟩ : ∃ W0, W0 = W.alloc (.cells #[.int .i64 6, .string m, .string nm, .slice aa 1 cap, vb, vo] 47) := ⟨_, rfl⟩
  obtain ⟨x0_0, x1_0, x2_0, x3_0, x4_0, x5_0⟩ := box6 W (.int .i64 6) (.string m) (.string nm) (.slice aa 1 cap) (vb) (vo) 47
  rw [← hW0] at x0_0 x1_0 x2_0 x3_0 x4_0 x5_0
  have H0 : Hid (Wr b (ts ++ []) v0 W0) := by
    rw [hW0, List.append_nil]; exact h.alloc _
  have K0 : Hid (WK b v0 v0 W W0) := by rw [hW0]; exact WK.of_below (al1 _ _) b v0
  have hz0 : W0.heap.size = W.heap.size + 1 := by rw [hW0]; simp
  have hlt0 : b < W0.heap.size := H0.out.lt
  have hf0 : Hid (Off b v0 W.heap.size) := h.own (Nat.le_refl _)
  have hx0 : W.heap.size < W0.heap.size := by omega
  have DA0 : Hid (DAt W0 (Off b v0) aa 1 (exsD [x])) := by rw [hW0]; exact hA.moves (Moves.of_below (al1 _ _) _)
  clear h hA
  generalize hkb : W.heap.size = kb at *
  go_enter Tryz.func125, Tryz.ntmps125
  go_upto_region 1 with fail
  rw [← hW0]
  clear hW0
  go_wp2_with fail
  refine (put1 b _ tReturn _ v0 W0 (by omega) H0.out (by decide) (by simp; omega)).mono ?_
  rintro e W1 ⟨v1, rfl, hh, kk⟩
  have H1 : Hid (Wr b (ts ++ ([pTk tReturn])) v1 W1) := by
    have := hh
    rw [List.append_assoc] at this
    exact this
  have K1 := hid (K0.out.trans kk)
  have hlt1 := hh.lt
  have hz1 := kk.size
  have DA1 := hid (DA0.out.moves kk.moves)
  have x0_1 := (kk.cell (off := 0) hx0 hf0.out).trans x0_0
  have x1_1 := (kk.cell (off := 1) hx0 hf0.out).trans x1_0
  have x2_1 := (kk.cell (off := 2) hx0 hf0.out).trans x2_0
  have x3_1 := (kk.cell (off := 3) hx0 hf0.out).trans x3_0
  have x4_1 := (kk.cell (off := 4) hx0 hf0.out).trans x4_0
  have x5_1 := (kk.cell (off := 5) hx0 hf0.out).trans x5_0
  have hf1 := hid (kk.off hx0 hf0.out)
  have hx1 : kb < W1.heap.size := Nat.lt_of_lt_of_le hx0 kk.size
  clear hh kk
  clear x0_0 x1_0 x2_0 x3_0 x4_0 x5_0
  obtain ⟨eb0, eo0, ea0, ec0, he0, hx0'⟩ := DA1.out.ex (l := [x]) 0 (by simp)
  subst he0
  have hx0 : ExAt W1 (Off b v1) eb0 (eo0 + 0 * 5) x ea0 ec0 := hx0'
  have q00 := hx0.c0
  have q01 := hx0.c1
  have q02 := hx0.c2
  have q03 := hx0.c3
  have q04 := hx0.c4
  rw [Nat.zero_mul, Nat.add_zero] at q00 q01 q02 q03 q04
  have hle0 := hx0.lt
  have HEx0 := hid hx0
  clear hx0 hx0'
  go_wp2_with fail
  refine (HX.out b _ v1 W1 ea0 ec0 H1.out HEx0.out.args HEx0.out.wm HEx0.out.wna (by simp; omega)).mono ?_
  rintro e W2 ⟨v2, rfl, hh, kk⟩
  have H2 : Hid (Wr b (ts ++ ([pTk tReturn] ++ tE x)) v2 W2) := by
    have := hh
    rw [List.append_assoc] at this
    exact this
  have K2 := hid (K1.out.trans kk)
  have hlt2 := hh.lt
  have hz2 := kk.size
  have DA2 := hid (DA1.out.moves kk.moves)
  have x0_2 := (kk.cell (off := 0) hx1 hf1.out).trans x0_1
  have x1_2 := (kk.cell (off := 1) hx1 hf1.out).trans x1_1
  have x2_2 := (kk.cell (off := 2) hx1 hf1.out).trans x2_1
  have x3_2 := (kk.cell (off := 3) hx1 hf1.out).trans x3_1
  have x4_2 := (kk.cell (off := 4) hx1 hf1.out).trans x4_1
  have x5_2 := (kk.cell (off := 5) hx1 hf1.out).trans x5_1
  have hf2 := hid (kk.off hx1 hf1.out)
  have hx2 : kb < W2.heap.size := Nat.lt_of_lt_of_le hx1 kk.size
  clear hh kk
  clear x0_1 x1_1 x2_1 x3_1 x4_1 x5_1
  go_wp2_with fail
  go_end0
  exact ⟨v2, rfl, by rw [HE.out]; exact H2.out, K2.out⟩
set_option maxRecDepth 100000 in
set_option maxHeartbeats 1600000 in
theorem line_7 (m nm : ByteArray) (vb vo : Value) (x : Ex) (hX : WrE x) (b : Nat) (ts : List Tk) (v0 : Value) (W : World) (aa : Option Addr) (cap : Nat) (h : Wr b ts v0 W) (hA : DAt W (Off b v0) aa 1 (exsD [x])) (hl : ts.length + (tE x).length + 1 ≤ 4000000000000) :
    Calls Tryz.prog 125 #[.pointer (some ⟨b, 0, none⟩), .agg #[.int .i64 7, .string m, .string nm, .slice aa 1 cap, vb, vo]] W (WEnd b ts v0 W (kTk tOut :: tE x)) := by
  have HE : Hid (kTk tOut :: tE x = [pTk tOut] ++ tE x) := by
    show _ = _
    rw [pk (t := tOut) (by decide)]; rfl
  have HX := hid hX
  clear hX
  obtain ⟨W0, hW0⟩ : ∃ W0, W0 = W.alloc (.cells #[.int .i64 7, .string m, .string nm, .slice aa 1 cap, vb, vo] 47) := ⟨_, rfl⟩
  obtain ⟨x0_0, x1_0, x2_0, x3_0, x4_0, x5_0⟩ := box6 W (.int .i64 7) (.string m) (.string nm) (.slice aa 1 cap) (vb) (vo) 47
  rw [← hW0] at x0_0 x1_0 x2_0 x3_0 x4_0 x5_0
  have H0 : Hid (Wr b (ts ++ []) v0 W0) := by
    rw [hW0, List.append_nil]; exact h.alloc _
  have K0 : Hid (WK b v0 v0 W W0) := by rw [hW0]; exact WK.of_below (al1 _ _) b v0
  have hz0 : W0.heap.size = W.heap.size + 1 := by rw [hW0]; simp
  have hlt0 : b < W0.heap.size := H0.out.lt
  have hf0 : Hid (Off b v0 W.heap.size) := h.own (Nat.le_refl _)
  have hx0 : W.heap.size < W0.heap.size := by omega
  have DA0 : Hid (DAt W0 (Off b v0) aa 1 (exsD [x])) := by rw [hW0]; exact hA.moves (Moves.of_below (al1 _ _) _)
  clear h hA
  generalize hkb : W.heap.size = kb at *
  go_enter Tryz.func125, Tryz.ntmps125
  go_upto_region 1 with fail
  rw [← hW0]
  clear hW0
  go_wp2_with fail
  refine (put1 b _ tOut _ v0 W0 (by omega) H0.out (by decide) (by simp; omega)).mono ?_
  rintro e W1 ⟨v1, rfl, hh, kk⟩
  have H1 : Hid (Wr b (ts ++ ([pTk tOut])) v1 W1) := by
    have := hh
    rw [List.append_assoc] at this
    exact this
  have K1 := hid (K0.out.trans kk)
  have hlt1 := hh.lt
  have hz1 := kk.size
  have DA1 := hid (DA0.out.moves kk.moves)
  have x0_1 := (kk.cell (off := 0) hx0 hf0.out).trans x0_0
  have x1_1 := (kk.cell (off := 1) hx0 hf0.out).trans x1_0
  have x2_1 := (kk.cell (off := 2) hx0 hf0.out).trans x2_0
  have x3_1 := (kk.cell (off := 3) hx0 hf0.out).trans x3_0
  have x4_1 := (kk.cell (off := 4) hx0 hf0.out).trans x4_0
  have x5_1 := (kk.cell (off := 5) hx0 hf0.out).trans x5_0
  have hf1 := hid (kk.off hx0 hf0.out)
  have hx1 : kb < W1.heap.size := Nat.lt_of_lt_of_le hx0 kk.size
  clear hh kk
  clear x0_0 x1_0 x2_0 x3_0 x4_0 x5_0
  obtain ⟨eb0, eo0, ea0, ec0, he0, hx0'⟩ := DA1.out.ex (l := [x]) 0 (by simp)
  subst he0
  have hx0 : ExAt W1 (Off b v1) eb0 (eo0 + 0 * 5) x ea0 ec0 := hx0'
  have q00 := hx0.c0
  have q01 := hx0.c1
  have q02 := hx0.c2
  have q03 := hx0.c3
  have q04 := hx0.c4
  rw [Nat.zero_mul, Nat.add_zero] at q00 q01 q02 q03 q04
  have hle0 := hx0.lt
  have HEx0 := hid hx0
  clear hx0 hx0'
  go_wp2_with fail
  refine (HX.out b _ v1 W1 ea0 ec0 H1.out HEx0.out.args HEx0.out.wm HEx0.out.wna (by simp; omega)).mono ?_
  rintro e W2 ⟨v2, rfl, hh, kk⟩
  have H2 : Hid (Wr b (ts ++ ([pTk tOut] ++ tE x)) v2 W2) := by
    have := hh
    rw [List.append_assoc] at this
    exact this
  have K2 := hid (K1.out.trans kk)
  have hlt2 := hh.lt
  have hz2 := kk.size
  have DA2 := hid (DA1.out.moves kk.moves)
  have x0_2 := (kk.cell (off := 0) hx1 hf1.out).trans x0_1
  have x1_2 := (kk.cell (off := 1) hx1 hf1.out).trans x1_1
  have x2_2 := (kk.cell (off := 2) hx1 hf1.out).trans x2_1
  have x3_2 := (kk.cell (off := 3) hx1 hf1.out).trans x3_1
  have x4_2 := (kk.cell (off := 4) hx1 hf1.out).trans x4_1
  have x5_2 := (kk.cell (off := 5) hx1 hf1.out).trans x5_1
  have hf2 := hid (kk.off hx1 hf1.out)
  have hx2 : kb < W2.heap.size := Nat.lt_of_lt_of_le hx1 kk.size
  clear hh kk
  clear x0_1 x1_1 x2_1 x3_1 x4_1 x5_1
  go_wp2_with fail
  go_end0
  exact ⟨v2, rfl, by rw [HE.out]; exact H2.out, K2.out⟩
theorem line_w {op : Int} {m nm : ByteArray} {args : List Ex} (h1 : stB op = true) (h4 : ¬ op = 4) (h5 : ¬ op = 5) (h2 : refOk (stS op) m nm = true) (h3 : countOk (stS op) args.length = true) (hx : ∀ a ∈ args, exOk a) (vb vo : Value) (b : Nat) (ts : List Tk) (v : Value) (W : World) (aa : Option Addr) (cap : Nat) (hW : Wr b ts v W) (hA : DAt W (Off b v) aa args.length (exsD args)) (hl : ts.length + (lnTok op m nm (tEs args)).length ≤ 4000000000000) :
    Calls Tryz.prog 125 #[.pointer (some ⟨b, 0, none⟩), .agg #[.int .i64 op, .string m, .string nm, .slice aa args.length cap, vb, vo]] W (WEnd b ts v W (lnTok op m nm (tEs args))) := by
  have hX : ∀ a ∈ args, WrE a := fun a ha => expr_w (hx a ha)
  rcases st_ops h1 with rfl | rfl | rfl | rfl | rfl | rfl | rfl
  · obtain ⟨r1, r2⟩ := ref_ok rfl h2
    obtain ⟨x, rfl⟩ := count_one h3 rfl rfl
    have e : lnTok 1 m nm (tEs [x]) = refT m nm ++ kTk tEq :: tE x := by simp [tEs, lnTok]
    rw [e] at hl ⊢
    exact line_1 m nm vb vo x (hX x (by simp)) b ts v W aa cap hW hA r1 r2 (by simp at hl; omega)
  · obtain ⟨r1, r2⟩ := ref_ok rfl h2
    obtain ⟨x, y, rfl⟩ := count_two h3 rfl rfl
    have e : lnTok 2 m nm (tEs [x, y]) = refT m nm ++ kTk tLs :: (tE x ++ kTk tRs :: kTk tEq :: tE y) := by simp [tEs, lnTok]
    rw [e] at hl ⊢
    exact line_2 m nm vb vo x y (hX x (by simp)) (hX y (by simp)) b ts v W aa cap hW hA r1 r2 (by simp at hl; omega)
  · obtain ⟨r1, r2⟩ := ref_ok rfl h2
    have e : lnTok 3 m nm (tEs args) = refT m nm ++ kTk tLp :: (commas (tEs args) ++ [kTk tRp]) := by simp [lnTok]
    rw [e] at hl ⊢
    exact line_3 m nm vb vo args hX (by have := count_le h3 (by decide); omega) b ts v W aa cap hW hA r1 r2 (by simp at hl; omega)
  · exact absurd rfl h4
  · exact absurd rfl h5
  · obtain ⟨x, rfl⟩ := count_one h3 rfl rfl
    have e : lnTok 6 m nm (tEs [x]) = kTk tReturn :: tE x := by simp [tEs, lnTok]
    rw [e] at hl ⊢
    exact line_6 m nm vb vo x (hX x (by simp)) b ts v W aa cap hW hA (by simp at hl; omega)
  · obtain ⟨x, rfl⟩ := count_one h3 rfl rfl
    have e : lnTok 7 m nm (tEs [x]) = kTk tOut :: tE x := by simp [tEs, lnTok]
    rw [e] at hl ⊢
    exact line_7 m nm vb vo x (hX x (by simp)) b ts v W aa cap hW hA (by simp at hl; omega)
end Go.Proofs.YtcekpobmbmnplaaGreatDoor
