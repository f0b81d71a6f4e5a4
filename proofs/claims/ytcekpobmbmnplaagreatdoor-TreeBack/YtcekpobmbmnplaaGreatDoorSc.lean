/-
  The writer: an index, and arguments, over what it does with an expression.
-/
import Derived.Test.YtcekpobmbmnplaaGreatDoorSb
namespace Go.Proofs.YtcekpobmbmnplaaGreatDoor
open Go.RowKit Go.Shelf

/- what the writer must do with an expression -/
def WrE (x : Ex) : Prop := ∀ (b : Nat) (ts : List Tk) (v : Value) (W : World) (aa : Option Addr) (cap : Nat), Wr b ts v W → DAt W (Off b v) aa x.args.length (exsD x.args) → x.mod.size ≤ maxLen → x.name.size ≤ maxLen → ts.length + (tE x).length ≤ 4000000000000 →
    Calls Tryz.prog 124 #[.pointer (some ⟨b, 0, none⟩), .agg #[.int .i64 x.op, .int .i64 x.n, .string x.mod, .string x.name, .slice aa x.args.length cap]] W (WEnd b ts v W (tE x))
theorem box5 (W : World) (x0 x1 x2 x3 x4 : Value) (t : TypeId) : (W.alloc (.cells #[x0, x1, x2, x3, x4] t)).cell? ⟨W.heap.size, 0, none⟩ = some x0 ∧ (W.alloc (.cells #[x0, x1, x2, x3, x4] t)).cell? ⟨W.heap.size, 1, none⟩ = some x1 ∧ (W.alloc (.cells #[x0, x1, x2, x3, x4] t)).cell? ⟨W.heap.size, 2, none⟩ = some x2 ∧ (W.alloc (.cells #[x0, x1, x2, x3, x4] t)).cell? ⟨W.heap.size, 3, none⟩ = some x3 ∧ (W.alloc (.cells #[x0, x1, x2, x3, x4] t)).cell? ⟨W.heap.size, 4, none⟩ = some x4 := by
  have h := heap_newP W (.cells #[x0, x1, x2, x3, x4] t)
  exact ⟨by rw [Lib.cell_of_heap h]; rfl, by rw [Lib.cell_of_heap h]; rfl, by rw [Lib.cell_of_heap h]; rfl, by rw [Lib.cell_of_heap h]; rfl, by rw [Lib.cell_of_heap h]; rfl⟩
theorem box6 (W : World) (x0 x1 x2 x3 x4 x5 : Value) (t : TypeId) : (W.alloc (.cells #[x0, x1, x2, x3, x4, x5] t)).cell? ⟨W.heap.size, 0, none⟩ = some x0 ∧ (W.alloc (.cells #[x0, x1, x2, x3, x4, x5] t)).cell? ⟨W.heap.size, 1, none⟩ = some x1 ∧ (W.alloc (.cells #[x0, x1, x2, x3, x4, x5] t)).cell? ⟨W.heap.size, 2, none⟩ = some x2 ∧ (W.alloc (.cells #[x0, x1, x2, x3, x4, x5] t)).cell? ⟨W.heap.size, 3, none⟩ = some x3 ∧ (W.alloc (.cells #[x0, x1, x2, x3, x4, x5] t)).cell? ⟨W.heap.size, 4, none⟩ = some x4 ∧ (W.alloc (.cells #[x0, x1, x2, x3, x4, x5] t)).cell? ⟨W.heap.size, 5, none⟩ = some x5 := by
  have h := heap_newP W (.cells #[x0, x1, x2, x3, x4, x5] t)
  exact ⟨by rw [Lib.cell_of_heap h]; rfl, by rw [Lib.cell_of_heap h]; rfl, by rw [Lib.cell_of_heap h]; rfl, by rw [Lib.cell_of_heap h]; rfl, by rw [Lib.cell_of_heap h]; rfl, by rw [Lib.cell_of_heap h]; rfl⟩
set_option maxRecDepth 100000 in
set_option maxHeartbeats 1600000 in
theorem index_w (x : Ex) (hX : WrE x) (b : Nat) (ts : List Tk) (v0 : Value) (W : World) (aa : Option Addr) (cap : Nat) (h : Wr b ts v0 W) (hA : DAt W (Off b v0) aa x.args.length (exsD x.args)) (hm : x.mod.size ≤ maxLen) (hnm : x.name.size ≤ maxLen) (hl : ts.length + (tE x).length + 2 ≤ 4000000000000) :
    Calls Tryz.prog 139 #[.pointer (some ⟨b, 0, none⟩), .agg #[.int .i64 x.op, .int .i64 x.n, .string x.mod, .string x.name, .slice aa x.args.length cap]] W (WEnd b ts v0 W (kTk tLs :: (tE x ++ [kTk tRs]))) := by
  have HX := hid hX
  have HE : Hid (kTk tLs :: (tE x ++ [kTk tRs]) = [pTk tLs] ++ tE x ++ [pTk tRs]) := by
    show _ = _
    rw [pk (t := tLs) (by decide), pk (t := tRs) (by decide)]; simp
  clear hX
  obtain ⟨W0, hW0⟩ : ∃ W0, W0 = W.alloc (.cells #[.int .i64 x.op, .int .i64 x.n, .string x.mod, .string x.name, .slice aa x.args.length cap] 76) := ⟨_, rfl⟩
  obtain ⟨x0_0, x1_0, x2_0, x3_0, x4_0⟩ := box5 W (.int .i64 x.op) (.int .i64 x.n) (.string x.mod) (.string x.name) (.slice aa x.args.length cap) 76
  rw [← hW0] at x0_0 x1_0 x2_0 x3_0 x4_0
  have H0 : Hid (Wr b (ts ++ []) v0 W0) := by
    rw [hW0, List.append_nil]; exact h.alloc _
  have K0 : Hid (WK b v0 v0 W W0) := by rw [hW0]; exact WK.of_below (al1 _ _) b v0
  have hz0 : W0.heap.size = W.heap.size + 1 := by rw [hW0]; simp
  have hlt0 : b < W0.heap.size := H0.out.lt
  have hf0 : Hid (Off b v0 W.heap.size) := h.own (Nat.le_refl _)
  have hx0 : W.heap.size < W0.heap.size := by omega
  have DA0 : Hid (DAt W0 (Off b v0) aa x.args.length (exsD x.args)) := by rw [hW0]; exact hA.moves (Moves.of_below (al1 _ _) _)
  clear h hA
  generalize hkb : W.heap.size = kb at *
  go_enter Tryz.func139, Tryz.ntmps139
  go_upto_region 1 with fail
  rw [← hW0]
  clear hW0
  go_wp2_with fail
  refine (put1 b _ tLs _ v0 W0 (by omega) H0.out (by decide) (by simp; omega)).mono ?_
  rintro e W1 ⟨v1, rfl, hh, kk⟩
  have H1 : Hid (Wr b (ts ++ ([pTk tLs])) v1 W1) := by
    have := hh
    rw [List.append_assoc] at this
    exact this
  have K1 := hid (K0.out.trans kk)
  have hlt1 := hh.lt
  have hz1 := kk.size
  have DA1 := hid (DA0.out.moves kk.moves)
  have x0_1 := (kk.cell (off := 0) hx0 hf0.out).trans x0_0
  have x1_1 := (kk.cell (off := 1) hx0 hf0.out).trans x1_0
  have x2_1 := (kk.cell (off := 2) hx0 hf0.out).trans x2_0
  have x3_1 := (kk.cell (off := 3) hx0 hf0.out).trans x3_0
  have x4_1 := (kk.cell (off := 4) hx0 hf0.out).trans x4_0
  have hf1 := hid (kk.off hx0 hf0.out)
  have hx1 : kb < W1.heap.size := Nat.lt_of_lt_of_le hx0 kk.size
  clear hh kk
  clear x0_0 x1_0 x2_0 x3_0 x4_0
  go_wp2_with fail
  refine (HX.out b _ v1 W1 aa cap H1.out DA1.out hm hnm (by simp; omega)).mono ?_
  rintro e W2 ⟨v2, rfl, hh, kk⟩
  have H2 : Hid (Wr b (ts ++ ([pTk tLs] ++ tE x)) v2 W2) := by
    have := hh
    rw [List.append_assoc] at this
    exact this
  have K2 := hid (K1.out.trans kk)
  have hlt2 := hh.lt
  have hz2 := kk.size
  have DA2 := hid (DA1.out.moves kk.moves)
  have x0_2 := (kk.cell (off := 0) hx1 hf1.out).trans x0_1
  have x1_2 := (kk.cell (off := 1) hx1 hf1.out).trans x1_1
  have x2_2 := (kk.cell (off := 2) hx1 hf1.out).trans x2_1
  have x3_2 := (kk.cell (off := 3) hx1 hf1.out).trans x3_1
  have x4_2 := (kk.cell (off := 4) hx1 hf1.out).trans x4_1
  have hf2 := hid (kk.off hx1 hf1.out)
  have hx2 : kb < W2.heap.size := Nat.lt_of_lt_of_le hx1 kk.size
  clear hh kk
  clear x0_1 x1_1 x2_1 x3_1 x4_1
  go_wp2_with fail
  refine (put1 b _ tRs _ v2 W2 (by omega) H2.out (by decide) (by simp; omega)).mono ?_
  rintro e W3 ⟨v3, rfl, hh, kk⟩
  have H3 : Hid (Wr b (ts ++ ([pTk tLs] ++ tE x ++ [pTk tRs])) v3 W3) := by
    have := hh
    rw [List.append_assoc] at this
    exact this
  have K3 := hid (K2.out.trans kk)
  have hlt3 := hh.lt
  have hz3 := kk.size
  have DA3 := hid (DA2.out.moves kk.moves)
  have x0_3 := (kk.cell (off := 0) hx2 hf2.out).trans x0_2
  have x1_3 := (kk.cell (off := 1) hx2 hf2.out).trans x1_2
  have x2_3 := (kk.cell (off := 2) hx2 hf2.out).trans x2_2
  have x3_3 := (kk.cell (off := 3) hx2 hf2.out).trans x3_2
  have x4_3 := (kk.cell (off := 4) hx2 hf2.out).trans x4_2
  have hf3 := hid (kk.off hx2 hf2.out)
  have hx3 : kb < W3.heap.size := Nat.lt_of_lt_of_le hx2 kk.size
  clear hh kk
  clear x0_2 x1_2 x2_2 x3_2 x4_2
  go_wp2_with fail
  go_end0
  exact ⟨v3, rfl, by rw [HE.out]; exact H3.out, K3.out⟩
theorem commas_pre : ∀ (xs ys : List (List Tk)), (commas xs).length ≤ (commas (xs ++ ys)).length
  | [], _ => by simp [commas]
  | [x], [] => by simp
  | [x], y :: r => by
    show x.length ≤ (x ++ kTk tCom :: commas (y :: r)).length
    simp
  | x :: y :: r, zs => by
    have := commas_pre (y :: r) zs
    show (x ++ kTk tCom :: commas (y :: r)).length ≤ (x ++ kTk tCom :: commas ((y :: r) ++ zs)).length
    simp only [List.length_append, List.length_cons] at this ⊢
    omega
theorem commas_take (l : List Ex) (k : Nat) : (commas (tEs (l.take k))).length ≤ (commas (tEs l)).length := by
  have := commas_pre (tEs (l.take k)) (tEs (l.drop k))
  rw [← tEs_append, List.take_append_drop] at this
  exact this
theorem commas_next {l : List Ex} {k : Nat} (h : k < l.length) (h0 : 0 < k) : commas (tEs (l.take (k + 1))) = commas (tEs (l.take k)) ++ kTk tCom :: tE l[k] := by
  rw [List.take_succ_eq_append_getElem h, tEs_append, show tEs [l[k]] = [tE l[k]] from by simp [tEs]]
  exact commas_snoc _ _ (fun e => by
    have := tEs_len (l.take k)
    rw [e] at this
    simp at this
    omega)
theorem commas_first {l : List Ex} (h : 0 < l.length) : commas (tEs (l.take 1)) = tE l[0] := by
  cases l with
  | nil => simp at h
  | cons x r => simp [tEs, commas]
set_option maxRecDepth 100000 in
set_option maxHeartbeats 1600000 in
theorem args_w (l : List Ex) (hX : ∀ x ∈ l, WrE x) (b : Nat) (ts : List Tk) (v0 : Value) (W : World) (aa : Option Addr) (cap : Nat) (h : Wr b ts v0 W) (hA : DAt W (Off b v0) aa l.length (exsD l)) (hl : ts.length + (commas (tEs l)).length + 2 ≤ 4000000000000) (h3 : l.length ≤ 100) :
    Calls Tryz.prog 140 #[.pointer (some ⟨b, 0, none⟩), .slice aa l.length cap] W (WEnd b ts v0 W (kTk tLp :: (commas (tEs l) ++ [kTk tRp]))) := by
  have HX := hid hX
  have HE : Hid (kTk tLp :: (commas (tEs l) ++ [kTk tRp]) = [pTk tLp] ++ commas (tEs l) ++ [pTk tRp]) := by
    show _ = _
    rw [pk (t := tLp) (by decide), pk (t := tRp) (by decide)]; simp
  have HCm : Hid (pTk tCom = kTk tCom) := pk (by decide)
  have HA := hid hA
  have HH := hid h
  clear hX hA h
  go_enter Tryz.func140, Tryz.ntmps140
  go_wp2_with fail
  refine (put1 b _ tLp ts v0 W rfl HH.out (by decide) (by omega)).mono ?_
  rintro e W1 ⟨v1, rfl, hh, kk⟩
  have H1 := hid hh
  have K1 := hid kk
  clear hh kk HH
  go_wp2_with fail
  go_loopw [11, 4, 5] (fun i _ _ wr => ∃ (k : Nat) (vr : Value), k ≤ l.length ∧ i = .int .i64 k ∧ Wr b (ts ++ ([pTk tLp] ++ commas (tEs (l.take k)))) vr wr ∧ WK b v0 vr W wr) (fun i _ _ _ => l.length - (intOf i).toNat)
  case atStart => exact ⟨0, v1, Nat.zero_le _, rfl, by simpa [tEs, commas] using H1.out, K1.out⟩
  case round =>
    clear H1 K1
    obtain ⟨k, vr, hk, rfl, hW, hK⟩ := hrel
    have HW := hid hW
    have HK := hid hK
    have hltr := hW.lt
    by_cases hkl : k < l.length
    · obtain ⟨eb, eo, ea, ec, rfl, hx⟩ := (HA.out.moves hK.moves).ex k hkl
      have HXk := hid (HX.out l[k] (List.getElem_mem hkl))
      have HEx := hid hx
      have q0 := hx.c0
      have q1 := hx.c1
      have q2 := hx.c2
      have q3 := hx.c3
      have q4 := hx.c4
      have hle := hx.lt
      have HLn := hid (commas_take l (k + 1))
      obtain ⟨Wb, hWb⟩ : ∃ Wb, Wb = wr.alloc (.cells #[.int .i64 l[k].op, .int .i64 l[k].n, .string l[k].mod, .string l[k].name, .slice ea l[k].args.length ec] 76) := ⟨_, rfl⟩
      obtain ⟨x0, x1, x2, x3, x4⟩ := box5 wr (.int .i64 l[k].op) (.int .i64 l[k].n) (.string l[k].mod) (.string l[k].name) (.slice ea l[k].args.length ec) 76
      rw [← hWb] at x0 x1 x2 x3 x4
      have HWb : Hid (Wr b (ts ++ ([pTk tLp] ++ commas (tEs (l.take k)))) vr Wb) := by rw [hWb]; exact hW.alloc _
      have KWb : Hid (WK b vr vr wr Wb) := by rw [hWb]; exact WK.of_below (al1 _ _) b vr
      have DWb : Hid (DAt Wb (Off b vr) ea l[k].args.length (exsD l[k].args)) := by rw [hWb]; exact hx.args.moves (Moves.of_below (al1 _ _) _)
      have hzb : Wb.heap.size = wr.heap.size + 1 := by rw [hWb]; simp
      have hfb : Hid (Off b vr wr.heap.size) := hW.own (Nat.le_refl _)
      have hltb : b < Wb.heap.size := by omega
      have hxb : wr.heap.size < Wb.heap.size := by omega
      by_cases hk0 : k = 0
      · have hk0' : decide (0 < k) = false := decide_eq_false (by omega)
        have HT : Hid (commas (tEs (l.take (k + 1))) = tE l[k] ∧ commas (tEs (l.take k)) = []) := by
          subst hk0
          exact ⟨commas_first hkl, by simp [tEs, commas]⟩
        have hll : (tE l[k]).length ≤ (commas (tEs l)).length := by have := HLn.out; rw [HT.out.1] at this; exact this
        clear hW hK hx hk0
        rw [HT.out.2] at HWb
        go_upto_region 4 with fail
        rw [← hWb]
        clear hWb
        go_wp2_with fail
        refine (HXk.out b _ vr Wb ea ec HWb.out DWb.out HEx.out.wm HEx.out.wna (by simp; omega)).mono ?_
        rintro e W3 ⟨v3, rfl, hh, kk⟩
        have H3 : Hid (Wr b (ts ++ ([pTk tLp] ++ commas (tEs (l.take (k + 1))))) v3 W3) := by
          show Wr _ _ _ _
          rw [HT.out.1]
          have := hh
          simpa using this
        have K3 := hid ((HK.out.trans KWb.out).trans kk)
        clear hh kk
        go_wp2_with fail
        go_roundw
        case rel => exact ⟨k + 1, v3, by omega, by go_num, H3.out, K3.out⟩
        case measure => simp [intOf]; omega
      · have hk0' : 0 < k := by omega
        have HT : Hid (commas (tEs (l.take (k + 1))) = commas (tEs (l.take k)) ++ kTk tCom :: tE l[k]) := commas_next hkl (by omega)
        have hll : (commas (tEs (l.take k))).length + 1 + (tE l[k]).length ≤ (commas (tEs l)).length := by
          have := HLn.out
          rw [HT.out] at this
          simp only [List.length_append, List.length_cons] at this
          omega
        clear hW hK hx
        go_upto_region 4 with fail
        rw [← hWb]
        clear hWb
        go_wp2_with fail
        refine (put1 b _ tCom _ vr Wb (by omega) HWb.out (by decide) (by simp; omega)).mono ?_
        rintro e W2 ⟨v2, rfl, hh, kk⟩
        have H2 := hid hh
        have K2 := hid (KWb.out.trans kk)
        have y0 := (kk.cell (off := 0) hxb hfb.out).trans x0
        have y1 := (kk.cell (off := 1) hxb hfb.out).trans x1
        have y2 := (kk.cell (off := 2) hxb hfb.out).trans x2
        have y3 := (kk.cell (off := 3) hxb hfb.out).trans x3
        have y4 := (kk.cell (off := 4) hxb hfb.out).trans x4
        have D2 := hid (DWb.out.moves kk.moves)
        have hz2 := kk.size
        have hx2 : wr.heap.size < W2.heap.size := by omega
        have hlt2 := hh.lt
        clear hh kk x0 x1 x2 x3 x4
        go_wp2_with fail
        refine (HXk.out b _ v2 W2 ea ec H2.out D2.out HEx.out.wm HEx.out.wna (by simp; omega)).mono ?_
        rintro e W3 ⟨v3, rfl, hh, kk⟩
        have H3 : Hid (Wr b (ts ++ ([pTk tLp] ++ commas (tEs (l.take (k + 1))))) v3 W3) := by
          show Wr _ _ _ _
          rw [HT.out, ← HCm.out]
          have := hh
          simpa using this
        have K3 := hid ((HK.out.trans K2.out).trans kk)
        clear hh kk
        go_wp2_with fail
        go_roundw
        case rel => exact ⟨k + 1, v3, by omega, by go_num, H3.out, K3.out⟩
        case measure => simp [intOf]; omega
    · have hke : l.take k = l := List.take_of_length_le (by omega)
      have H4 : Hid (Wr b (ts ++ ([pTk tLp] ++ commas (tEs l))) vr wr) := by
        have := HW.out
        rw [hke] at this
        exact this
      clear hW hK HW
      go_wp2_with fail
      refine (put1 b _ tRp _ vr wr (by omega) H4.out (by decide) (by simp; omega)).mono ?_
      rintro e W5 ⟨v5, rfl, hh, kk⟩
      have H5 : Hid (Wr b (ts ++ ([pTk tLp] ++ commas (tEs l) ++ [pTk tRp])) v5 W5) := by
        have := hh
        rw [List.append_assoc] at this
        exact this
      have K5 := hid (HK.out.trans kk)
      clear hh kk
      go_wp2_with fail
      go_end0
      exact ⟨v5, rfl, by rw [HE.out]; exact H5.out, K5.out⟩
end Go.Proofs.YtcekpobmbmnplaaGreatDoor
