/-
  The writer: procedures.
-/
import Derived.Test.YtcekpobmbmnplaaGreatDoorSh
namespace Go.Proofs.YtcekpobmbmnplaaGreatDoor
open Go.RowKit Go.Shelf

theorem names_len_take (l : List ByteArray) (k : Nat) : (namesC (l.take k)).length ≤ (namesC l).length := by
  unfold namesC
  have := commas_pre ((l.take k).map (fun n => [wTk n])) ((l.drop k).map (fun n => [wTk n]))
  rw [← List.map_append, List.take_append_drop] at this
  exact this
theorem names_next {l : List ByteArray} {k : Nat} (h : k < l.length) (h0 : 0 < k) : namesC (l.take (k + 1)) = namesC (l.take k) ++ [kTk tCom, wTk l[k]] := by
  unfold namesC
  rw [List.take_succ_eq_append_getElem h, List.map_append, show [l[k]].map (fun n => [wTk n]) = [[wTk l[k]]] from rfl]
  exact commas_snoc _ _ (fun e => by
    have := congrArg List.length e
    simp at this
    rcases this with h' | h'
    · omega
    · rw [h'] at h; simp at h)
theorem names_first {l : List ByteArray} (h : 0 < l.length) : namesC (l.take 1) = [wTk l[0]] := by
  cases l with
  | nil => simp at h
  | cons x r => rfl
theorem lst_next (t : ByteArray) {l : List ByteArray} {k : Nat} (h : k < l.length) : lstT t (l.take (k + 1)) = lstT t (l.take k) ++ [kTk t, wTk l[k], kTk tSem] := by
  unfold lstT
  rw [List.take_succ_eq_append_getElem h, List.flatMap_append]; rfl
theorem lst_len_take (t : ByteArray) (l : List ByteArray) (k : Nat) : (lstT t (l.take k)).length ≤ (lstT t l).length := by
  have : lstT t l = lstT t (l.take k) ++ lstT t (l.drop k) := by unfold lstT; rw [← List.flatMap_append, List.take_append_drop]
  rw [this, List.length_append]; omega
set_option maxRecDepth 100000 in
set_option maxHeartbeats 3200000 in
theorem proc_w (nm : ByteArray) (p : Bool) (ps ls : List ByteArray) (bd : List St) (hn : nameOk nm = true) (hps : ∀ t ∈ ps, nameOk t = true) (hls : ∀ t ∈ ls, nameOk t = true) (hWB : WrB bd) (rb : Right (brT (tSs bd))) (b : Nat) (ts : List Tk) (v0 : Value) (W : World) (a1 a2 a3 : Option Addr) (c1 c2 c3 : Nat) (h : Wr b ts v0 W) (hA : DAt W (Off b v0) a1 ps.length (strsD ps)) (hB : DAt W (Off b v0) a2 ls.length (strsD ls)) (hO : DAt W (Off b v0) a3 bd.length (stsD bd)) (hl : ts.length + (tP ⟨nm, p, ps, ls, bd⟩).length ≤ 4000000000000) :
    Calls Tryz.prog 61 #[.pointer (some ⟨b, 0, none⟩), .agg #[.string nm, .bool p, .slice a1 ps.length c1, .slice a2 ls.length c2, .slice a3 bd.length c3]] W (WEndC b ts v0 W (tP ⟨nm, p, ps, ls, bd⟩)) := by
  have HE : Hid (tP ⟨nm, p, ps, ls, bd⟩ = pubT p ++ [pTk tProc, pTk nm, pTk tLp] ++ namesC ps ++ [pTk tRp] ++ lstT tLocal ls ++ brT (tSs bd)) := by
    show _ = _
    rw [pn hn, pk (t := tProc) (by decide), pk (t := tLp) (by decide), pk (t := tRp) (by decide)]; simp [tP]
  have hl2 : ts.length + (pubT p).length + (namesC ps).length + (lstT tLocal ls).length + (tSs bd).length + 6 ≤ 4000000000000 := by
    unfold tP brT at hl
    simp only [List.length_append, List.length_cons, List.length_nil] at hl
    omega
  have hnf := name_fit hn
  have HPs := hid hps
  have HLs := hid hls
  have HWB := hid hWB
  have HRb := hid rb
  have HRD : Hid (Right (pubT p ++ [pTk tProc, pTk nm, pTk tLp] ++ namesC ps ++ [pTk tRp] ++ lstT tLocal ls)) := by
    refine Right.append (Right.append (Right.append (Right.append (r_pub _) (.cons (r_put (by decide)) (.cons (by rw [pn hn]; exact r_name hn) (r_put (by decide))))) (r_names hps)) (r_put (by decide))) (r_lst (r_key (by decide)) hls)
  have HCm : Hid (pTk tCom = kTk tCom) := pk (by decide)
  have HKl : Hid (pTk tLocal = kTk tLocal ∧ pTk tSem = kTk tSem) := ⟨pk (by decide), pk (by decide)⟩
  have hbd1 := hA.bound
  have hbd2 := hB.bound
  clear hps hls hWB rb hl
  obtain ⟨W0, hW0⟩ : ∃ W0, W0 = W.alloc (.cells #[.string nm, .bool p, .slice a1 ps.length c1, .slice a2 ls.length c2, .slice a3 bd.length c3] 60) := ⟨_, rfl⟩
  obtain ⟨x0_0, x1_0, x2_0, x3_0, x4_0⟩ := box5 W (.string nm) (.bool p) (.slice a1 ps.length c1) (.slice a2 ls.length c2) (.slice a3 bd.length c3) 60
  rw [← hW0] at x0_0 x1_0 x2_0 x3_0 x4_0
  have H0 : Hid (Wr b (ts ++ []) v0 W0) := by
    rw [hW0, List.append_nil]; exact h.alloc _
  have K0 : Hid (WK b v0 v0 W W0) := by rw [hW0]; exact WK.of_below (al1 _ _) b v0
  have hz0 : W0.heap.size = W.heap.size + 1 := by rw [hW0]; simp
  have hlt0 : b < W0.heap.size := H0.out.lt
  have hf0 : Hid (Off b v0 W.heap.size) := h.own (Nat.le_refl _)
  have hx0 : W.heap.size < W0.heap.size := by omega
  have DA0 : Hid (DAt W0 (Off b v0) a1 ps.length (strsD ps)) := by rw [hW0]; exact hA.moves (Moves.of_below (al1 _ _) _)
  have DB0 : Hid (DAt W0 (Off b v0) a2 ls.length (strsD ls)) := by rw [hW0]; exact hB.moves (Moves.of_below (al1 _ _) _)
  have DO0 : Hid (DAt W0 (Off b v0) a3 bd.length (stsD bd)) := by rw [hW0]; exact hO.moves (Moves.of_below (al1 _ _) _)
  clear h hA hB hO
  generalize hkb : W.heap.size = kb at *
  go_enter Tryz.func61, Tryz.ntmps61
  go_upto_region 1 with fail
  rw [← hW0]
  clear hW0
  go_wp2_with fail
  refine (pub_w p b _ v0 W0 H0.out (by simp; omega)).mono ?_
  rintro e W1 ⟨v1, rfl, hh, kk⟩
  have H1 : Hid (Wr b (ts ++ (pubT p)) v1 W1) := by
    have := hh
    rw [List.append_assoc] at this
    exact this
  have K1 := hid (K0.out.trans kk)
  have hlt1 := hh.lt
  have hz1 := kk.size
  have DA1 := hid (DA0.out.moves kk.moves)
  have DB1 := hid (DB0.out.moves kk.moves)
  have DO1 := hid (DO0.out.moves kk.moves)
  have x0_1 := (kk.cell (off := 0) hx0 hf0.out).trans x0_0
  have x1_1 := (kk.cell (off := 1) hx0 hf0.out).trans x1_0
  have x2_1 := (kk.cell (off := 2) hx0 hf0.out).trans x2_0
  have x3_1 := (kk.cell (off := 3) hx0 hf0.out).trans x3_0
  have x4_1 := (kk.cell (off := 4) hx0 hf0.out).trans x4_0
  have hf1 := hid (kk.off hx0 hf0.out)
  have hx1 : kb < W1.heap.size := Nat.lt_of_lt_of_le hx0 kk.size
  clear hh kk
  clear x0_0 x1_0 x2_0 x3_0 x4_0
  go_wp2_with fail
  refine (put3 b _ tProc nm tLp _ v1 W1 (by omega) H1.out (by decide) hnf (by decide) (by simp; omega)).mono ?_
  rintro e W2 ⟨v2, rfl, hh, kk⟩
  have H2 : Hid (Wr b (ts ++ (pubT p ++ [pTk tProc, pTk nm, pTk tLp])) v2 W2) := by
    have := hh
    rw [List.append_assoc] at this
    exact this
  have K2 := hid (K1.out.trans kk)
  have hlt2 := hh.lt
  have hz2 := kk.size
  have DA2 := hid (DA1.out.moves kk.moves)
  have DB2 := hid (DB1.out.moves kk.moves)
  have DO2 := hid (DO1.out.moves kk.moves)
  have x0_2 := (kk.cell (off := 0) hx1 hf1.out).trans x0_1
  have x1_2 := (kk.cell (off := 1) hx1 hf1.out).trans x1_1
  have x2_2 := (kk.cell (off := 2) hx1 hf1.out).trans x2_1
  have x3_2 := (kk.cell (off := 3) hx1 hf1.out).trans x3_1
  have x4_2 := (kk.cell (off := 4) hx1 hf1.out).trans x4_1
  have hf2 := hid (kk.off hx1 hf1.out)
  have hx2 : kb < W2.heap.size := Nat.lt_of_lt_of_le hx1 kk.size
  clear hh kk
  clear x0_1 x1_1 x2_1 x3_1 x4_1
  go_wp2_with fail
  go_loopw [20, 4, 5] (fun i _ _ wr => ∃ (k : Nat) (vr : Value), k ≤ ps.length ∧ i = .int .i64 k ∧ Wr b (ts ++ (pubT p ++ [pTk tProc, pTk nm, pTk tLp] ++ namesC (ps.take k))) vr wr ∧ WK b v2 vr W2 wr) (fun i _ _ _ => ps.length - (intOf i).toNat)
  case atStart => exact ⟨0, v2, Nat.zero_le _, rfl, by simpa [namesC, commas] using H2.out, WK.refl _ _ _⟩
  case round =>
    obtain ⟨k, vr, hk, rfl, hW, hK⟩ := hrel
    have HW := hid hW
    have HK := hid hK
    have hltr := hW.lt
    have HLn := names_len_take ps (k + 1)
    by_cases hkl : k < ps.length
    · obtain ⟨ub, uo, rfl, hul, huc, hus⟩ := (DA2.out.moves hK.moves).str k hkl
      have hkn := HPs.out ps[k] (List.getElem_mem hkl)
      have hkf := name_fit hkn
      have HPk := hid (pn hkn)
      by_cases hk0 : k = 0
      · have hk0' : decide (0 < k) = false := decide_eq_false (by omega)
        have HT : Hid (namesC (ps.take (k + 1)) = [wTk ps[k]] ∧ namesC (ps.take k) = []) := by
          subst hk0
          exact ⟨names_first hkl, rfl⟩
        rw [HT.out.2] at HW
        clear hW hK hk0 hkn
        go_wp2_with fail
        refine (put1 b _ ps[k] _ vr wr (by omega) HW.out hkf (by simp; omega)).mono ?_
        rintro e W5 ⟨v5, rfl, hh, kk⟩
        have H5 : Hid (Wr b (ts ++ (pubT p ++ [pTk tProc, pTk nm, pTk tLp] ++ namesC (ps.take (k + 1)))) v5 W5) := by
          show Wr _ _ _ _
          rw [HT.out.1, ← HPk.out]
          have := hh
          simpa using this
        have K5 := hid (HK.out.trans kk)
        clear hh kk
        go_wp2_with fail
        go_roundw
        case rel => exact ⟨k + 1, v5, by omega, by go_num, H5.out, K5.out⟩
        case measure => simp [intOf]; omega
      · have hk0' : 0 < k := by omega
        have HT : Hid (namesC (ps.take (k + 1)) = namesC (ps.take k) ++ [kTk tCom, wTk ps[k]]) := names_next hkl (by omega)
        have hll : (namesC (ps.take k)).length + 2 ≤ (namesC ps).length := by
          rw [HT.out] at HLn
          simp only [List.length_append, List.length_cons, List.length_nil] at HLn
          omega
        clear hW hK hkn HLn
        go_wp2_with fail
        refine (put1 b _ tCom _ vr wr (by omega) HW.out (by decide) (by simp; omega)).mono ?_
        rintro e W4 ⟨v4, rfl, hh, kk⟩
        have H4 := hid hh
        have K4 := hid (HK.out.trans kk)
        have hz4 := kk.size
        have hlt4 := hh.lt
        clear hh kk
        go_wp2_with fail
        refine (put1 b _ ps[k] _ v4 W4 (by omega) H4.out hkf (by simp; omega)).mono ?_
        rintro e W5 ⟨v5, rfl, hh, kk⟩
        have H5 : Hid (Wr b (ts ++ (pubT p ++ [pTk tProc, pTk nm, pTk tLp] ++ namesC (ps.take (k + 1)))) v5 W5) := by
          show Wr _ _ _ _
          rw [HT.out, ← HPk.out, ← HCm.out]
          have := hh
          simpa using this
        have K5 := hid (K4.out.trans kk)
        clear hh kk
        go_wp2_with fail
        go_roundw
        case rel => exact ⟨k + 1, v5, by omega, by go_num, H5.out, K5.out⟩
        case measure => simp [intOf]; omega
    · have hke : ps.take k = ps := List.take_of_length_le (by omega)
      rw [hke] at HW
      have x0_3 := (hK.cell (off := 0) hx2 hf2.out).trans x0_2
      have x3_3 := (hK.cell (off := 3) hx2 hf2.out).trans x3_2
      have x4_3 := (hK.cell (off := 4) hx2 hf2.out).trans x4_2
      have hx3 : kb < wr.heap.size := Nat.lt_of_lt_of_le hx2 hK.size
      have hf3 := hid (hK.off hx2 hf2.out)
      have DB3 := hid (DB2.out.moves hK.moves)
      have DO3 := hid (DO2.out.moves hK.moves)
      have K3 := hid (K2.out.trans hK)
      clear hW hK HLn hke HPs HCm x0_2 x1_2 x2_2 x3_2 x4_2 DA2 DB2 DO2
      go_wp2_with fail
      refine (put1 b _ tRp _ vr wr (by omega) HW.out (by decide) (by simp; omega)).mono ?_
      rintro e W4 ⟨v4, rfl, hh, kk⟩
      have H4 : Hid (Wr b (ts ++ (pubT p ++ [pTk tProc, pTk nm, pTk tLp] ++ namesC ps ++ [pTk tRp])) v4 W4) := by
        have := hh
        rw [List.append_assoc] at this
        exact this
      have K4 := hid (K3.out.trans kk)
      have x3_4 := (kk.cell (off := 3) hx3 hf3.out).trans x3_3
      have x4_4 := (kk.cell (off := 4) hx3 hf3.out).trans x4_3
      have hx4 : kb < W4.heap.size := Nat.lt_of_lt_of_le hx3 kk.size
      have hf4 := hid (kk.off hx3 hf3.out)
      have DB4 := hid (DB3.out.moves kk.moves)
      have DO4 := hid (DO3.out.moves kk.moves)
      have hz4 := kk.size
      have hlt4 := hh.lt
      clear hh kk x0_3 x3_3 x4_3 DB3 DO3
      go_wp2_with fail
      go_loopw [41, 7] (fun i _ wr => ∃ (k : Nat) (vr : Value), k ≤ ls.length ∧ i = .int .i64 k ∧ Wr b (ts ++ (pubT p ++ [pTk tProc, pTk nm, pTk tLp] ++ namesC ps ++ [pTk tRp] ++ lstT tLocal (ls.take k))) vr wr ∧ WK b v4 vr W4 wr) (fun i _ _ => ls.length - (intOf i).toNat)
      case atStart => exact ⟨0, v4, Nat.zero_le _, rfl, by simpa [lstT] using H4.out, WK.refl _ _ _⟩
      case round =>
        obtain ⟨k, vr, hk, rfl, hW, hK⟩ := hrel
        have HW := hid hW
        have HK := hid hK
        have hltr := hW.lt
        have HLn := lst_len_take tLocal ls (k + 1)
        by_cases hkl : k < ls.length
        · obtain ⟨ub, uo, rfl, hul, huc, hus⟩ := (DB4.out.moves hK.moves).str k hkl
          have hkn := HLs.out ls[k] (List.getElem_mem hkl)
          have hkf := name_fit hkn
          have HPk := hid (pn hkn)
          have HT : Hid (lstT tLocal (ls.take (k + 1)) = lstT tLocal (ls.take k) ++ [kTk tLocal, wTk ls[k], kTk tSem]) := lst_next tLocal hkl
          have hll : (lstT tLocal (ls.take k)).length + 3 ≤ (lstT tLocal ls).length := by
            rw [HT.out] at HLn
            simp only [List.length_append, List.length_cons, List.length_nil] at HLn
            omega
          clear hW hK hkn HLn
          go_wp2_with fail
          refine (put3 b _ tLocal ls[k] tSem _ vr wr (by omega) HW.out (by decide) hkf (by decide) (by simp; omega)).mono ?_
          rintro e W6 ⟨v6, rfl, hh, kk⟩
          have H6 : Hid (Wr b (ts ++ (pubT p ++ [pTk tProc, pTk nm, pTk tLp] ++ namesC ps ++ [pTk tRp] ++ lstT tLocal (ls.take (k + 1)))) v6 W6) := by
            show Wr _ _ _ _
            rw [HT.out, ← HPk.out, ← HKl.out.1, ← HKl.out.2]
            have := hh
            simpa using this
          have K6 := hid (HK.out.trans kk)
          clear hh kk
          go_wp2_with fail
          go_roundw
          case rel => exact ⟨k + 1, v6, by omega, by go_num, H6.out, K6.out⟩
          case measure => simp [intOf]; omega
        · have hke : ls.take k = ls := List.take_of_length_le (by omega)
          rw [hke] at HW
          have x4_5 := (hK.cell (off := 4) hx4 hf4.out).trans x4_4
          have hx5 : kb < wr.heap.size := Nat.lt_of_lt_of_le hx4 hK.size
          have DO5 := hid (DO4.out.moves hK.moves)
          have K5 := hid (K4.out.trans hK)
          clear hW hK HLn hke
          go_wp2_with fail
          refine (HWB.out b _ vr wr a3 c3 HW.out DO5.out (by unfold brT; simp; omega)).mono ?_
          rintro e W7 ⟨T7, v7, rfl, hh, kk, hc⟩
          have H7 := hid hh
          have K7 := hid (K5.out.trans kk)
          have C7 : Hid (Cut (tP ⟨nm, p, ps, ls, bd⟩) ts T7) := by
            show Cut _ _ _
            rw [HE.out]
            exact Cut.trans2 (Or.inl rfl) hc HRD.out HRb.out
          clear hh kk hc
          go_wp2_with fail
          go_end0
          exact ⟨T7, v7, rfl, H7.out, K7.out, C7.out⟩
end Go.Proofs.YtcekpobmbmnplaaGreatDoor
