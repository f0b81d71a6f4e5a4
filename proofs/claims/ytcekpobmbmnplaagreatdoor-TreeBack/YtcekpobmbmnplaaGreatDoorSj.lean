/-
  The tokens of a right module, as the program gathers them; what Show answers.
-/
import Derived.Test.YtcekpobmbmnplaaGreatDoorSi
namespace Go.Proofs.YtcekpobmbmnplaaGreatDoor
open Go.RowKit Go.Shelf

theorem flat_next {α : Type} (f : α → List Tk) {l : List α} {k : Nat} (h : k < l.length) : (l.take (k + 1)).flatMap f = (l.take k).flatMap f ++ f l[k] := by
  rw [List.take_succ_eq_append_getElem h, List.flatMap_append]; simp
theorem flat_len_take {α : Type} (f : α → List Tk) (l : List α) (k : Nat) : ((l.take k).flatMap f).length ≤ (l.flatMap f).length := by
  have : l.flatMap f = (l.take k).flatMap f ++ (l.drop k).flatMap f := by rw [← List.flatMap_append, List.take_append_drop]
  rw [this, List.length_append]; omega
theorem wk_below {b : Nat} {v v' : Value} {w W0 W' : World} (hb : Below w.heap.size w W0) (h : WK b v v' W0 W') (ho : ∀ k, k < w.heap.size → Off b v k) : Below w.heap.size w W' :=
  ⟨h.os.trans hb.os, h.tape.trans hb.tape, h.output.trans hb.output, Nat.le_trans hb.size h.size, fun k hk => (h.block k (Nat.lt_of_lt_of_le hk hb.size) (ho k hk)).trans (hb.block k hk)⟩
set_option maxRecDepth 100000 in
set_option maxHeartbeats 3200000 in
theorem moduleTokens_any (m : Mo) (hok : moOk m) (hlen : (tM m).length ≤ 2000000000000) (v : Value) (a1 : Option Addr) (c1 : Nat) (a2 : Option Addr) (c2 : Nat) (a3 : Option Addr) (c3 : Nat) (a4 : Option Addr) (c4 : Nat) (w : World) (hM : MoAt w Tt m v a1 c1 a2 c2 a3 c3 a4 c4) :
    Calls Tryz.prog 29 #[v] w fun e w' => ∃ a cap ts', e = .returned (.slice a ts'.length cap) ∧ ToksAt w' a ts' ∧ Cut (tM m) [] ts' ∧ Below w.heap.size w w' := by
  obtain rfl := hM.val
  have HE : Hid (tM m = [pTk tModule, pTk m.name, pTk tLb] ++ lstT tUse m.uses ++ m.decls.flatMap tD ++ m.procs.flatMap tP ++ [pTk tMain] ++ brT (tSs m.main) ++ [pTk tRb]) := by
    show _ = _
    rw [pn hok.name, pk (t := tModule) (by decide), pk (t := tLb) (by decide), pk (t := tMain) (by decide), pk (t := tRb) (by decide)]; simp [tM]
  have HOk := hid hok
  have hlz : (lstT tUse m.uses).length + (m.decls.flatMap tD).length + (m.procs.flatMap tP).length + (tSs m.main).length + 7 ≤ 2000000000000 := by
    unfold tM brT at hlen
    simp only [List.length_append, List.length_cons, List.length_nil] at hlen
    omega
  have hnf := name_fit hok.name
  have HRu : Hid (Right ([pTk tModule, pTk m.name, pTk tLb] ++ lstT tUse m.uses)) := (Right.cons (r_put (by decide)) (.cons (by rw [pn hok.name]; exact r_name hok.name) (r_put (by decide)))).append (r_lst (r_key (by decide)) hok.uses)
  have HRd : Hid (Right ([pTk tModule, pTk m.name, pTk tLb] ++ lstT tUse m.uses ++ m.decls.flatMap tD)) := HRu.out.append (r_flat _ _ (fun d hd => r_de (hok.decls d hd)))
  have HRp : Hid (∀ k, Right ([pTk tModule, pTk m.name, pTk tLb] ++ lstT tUse m.uses ++ m.decls.flatMap tD ++ (m.procs.take k).flatMap tP)) := fun k => HRd.out.append (r_flat _ _ (fun p hp => r_pr (hok.procs p (List.mem_of_mem_take hp))))
  have HRm : Hid (Right (brT (tSs m.main))) := r_br (r_sts' hok.main)
  have HKu : Hid (pTk tUse = kTk tUse ∧ pTk tSem = kTk tSem) := ⟨pk (by decide), pk (by decide)⟩
  have hb1 := hM.uses.bound
  have hb2 := hM.decls.bound
  have hb3 := hM.procs.bound
  have hb4 := hM.main.bound
  obtain ⟨W0, hW0⟩ : ∃ W0, W0 = (w.alloc (.cells #[.string m.name, .slice a1 m.uses.length c1, .slice a2 m.decls.length c2, .slice a3 m.procs.length c3, .slice a4 m.main.length c4] 27)).alloc (.cells #[.slice none 0 0] 102) := ⟨_, rfl⟩
  have hz0 : W0.heap.size = w.heap.size + 1 + 1 := by rw [hW0]; simp
  have HB0 : Hid (Below w.heap.size w W0) := by rw [hW0]; exact al2 _ _ _
  have HOf : Hid (∀ k, k < w.heap.size → Off (w.heap.size + 1) (.slice none 0 0) k) := fun k hk => ⟨by omega, by simp [Value.ownBlock]⟩
  have HMv : Hid (Moves w Tt W0 (Off (w.heap.size + 1) (.slice none 0 0))) := ⟨HB0.out.size, fun k hk _ => ⟨HOf.out k hk, HB0.out.block k hk⟩⟩
  have H0 : Hid (Wr (w.heap.size + 1) [] (.slice none 0 0) W0) := by
    refine ⟨?_, World.ownsRow_nil _ _ _ _, by simp [Value.ownBlock], fun i hi => by simp at hi⟩
    rw [hW0]
    have := heap_newP (w.alloc (.cells #[.string m.name, .slice a1 m.uses.length c1, .slice a2 m.decls.length c2, .slice a3 m.procs.length c3, .slice a4 m.main.length c4] 27)) (.cells #[.slice none 0 0] 102)
    simpa using this
  have hbx : W0.heap[w.heap.size]? = some (.cells #[.string m.name, .slice a1 m.uses.length c1, .slice a2 m.decls.length c2, .slice a3 m.procs.length c3, .slice a4 m.main.length c4] 27 (0, 0)) := by rw [hW0]; exact heap_old (heap_newP _ _)
  obtain ⟨x0_0, x1_0, x2_0, x3_0, x4_0, _⟩ := cellsOf5 hbx
  have DU0 := hid (hM.uses.moves HMv.out)
  have DD0 := hid (hM.decls.moves HMv.out)
  have DP0 := hid (hM.procs.moves HMv.out)
  have DM0 := hid (hM.main.moves HMv.out)
  have hf0 : Hid (Off (w.heap.size + 1) (.slice none 0 0) w.heap.size) := ⟨by omega, by simp [Value.ownBlock]⟩
  have hx0 : w.heap.size < W0.heap.size := by omega
  clear hok hlen hM hbx HMv
  go_enter Tryz.func29, Tryz.ntmps29
  go_upto_region 2 with fail
  rw [← hW0]
  clear hW0
  generalize hb : w.heap.size + 1 = b at *
  generalize hkb : w.heap.size = kb at *
  have hlt0 : b < W0.heap.size := by omega
  have K0 := hid (WK.refl b (.slice none 0 0) W0)
  go_wp2_with fail
  refine (put3 b _ tModule m.name tLb [] _ W0 (by omega) H0.out (by decide) hnf (by decide) (by simp)).mono ?_
  rintro e W1 ⟨v1, rfl, hh, kk⟩
  have H1 : Hid (Wr b ([pTk tModule, pTk m.name, pTk tLb]) v1 W1) := hh
  have K1 := hid kk
  have hlt1 := hh.lt
  have hz1 := kk.size
  have x1_1 := (kk.cell (off := 1) hx0 hf0.out).trans x1_0
  have hx1 : kb < W1.heap.size := Nat.lt_of_lt_of_le hx0 kk.size
  clear hh kk
  go_wp2_with fail
  go_loopw [17, 5] (fun i _ wr => ∃ (k : Nat) (vr : Value), k ≤ m.uses.length ∧ i = .int .i64 k ∧ Wr b ([pTk tModule, pTk m.name, pTk tLb] ++ lstT tUse (m.uses.take k)) vr wr ∧ WK b (.slice none 0 0) vr W0 wr) (fun i _ _ => m.uses.length - (intOf i).toNat)
  case atStart => exact ⟨0, v1, Nat.zero_le _, rfl, by simpa [lstT] using H1.out, K1.out⟩
  case round =>
    clear H1 K1 x1_1
    obtain ⟨k, vr, hk, rfl, hW, hK⟩ := hrel
    have HW := hid hW
    have HK := hid hK
    have hltr := hW.lt
    have HLn := lst_len_take tUse m.uses (k + 1)
    by_cases hkl : k < m.uses.length
    · obtain ⟨ub, uo, rfl, hul, huc, hus⟩ := (DU0.out.moves hK.moves).str k hkl
      have hkn := HOk.out.uses m.uses[k] (List.getElem_mem hkl)
      have hkf := name_fit hkn
      have HPk := hid (pn hkn)
      have HT : Hid (lstT tUse (m.uses.take (k + 1)) = lstT tUse (m.uses.take k) ++ [kTk tUse, wTk m.uses[k], kTk tSem]) := lst_next tUse hkl
      have hll : (lstT tUse (m.uses.take k)).length + 3 ≤ (lstT tUse m.uses).length := by
        rw [HT.out] at HLn
        simp only [List.length_append, List.length_cons, List.length_nil] at HLn
        omega
      clear hW hK hkn HLn
      go_wp2_with fail
      refine (put3 b _ tUse m.uses[k] tSem _ vr wr (by omega) HW.out (by decide) hkf (by decide) (by simp; omega)).mono ?_
      rintro e W6 ⟨v6, rfl, hh, kk⟩
      have H6 : Hid (Wr b ([pTk tModule, pTk m.name, pTk tLb] ++ lstT tUse (m.uses.take (k + 1))) v6 W6) := by
        show Wr _ _ _ _
        rw [HT.out, ← HPk.out, ← HKu.out.1, ← HKu.out.2]
        have := hh
        simpa using this
      have K6 := hid (HK.out.trans kk)
      clear hh kk
      go_wp2_with fail
      go_roundw
      case rel => exact ⟨k + 1, v6, by omega, by go_num, H6.out, K6.out⟩
      case measure => simp [intOf]; omega
    · have hke : m.uses.take k = m.uses := List.take_of_length_le (by omega)
      rw [hke] at HW
      have x2_2 := (hK.cell (off := 2) hx0 hf0.out).trans x2_0
      have hx2 : kb < wr.heap.size := Nat.lt_of_lt_of_le hx0 hK.size
      clear hW hK HLn hke
      go_wp2_with fail
      go_loopw [28, 7] (fun i _ wr => ∃ (k : Nat) (vr : Value), k ≤ m.decls.length ∧ i = .int .i64 k ∧ Wr b ([pTk tModule, pTk m.name, pTk tLb] ++ lstT tUse m.uses ++ (m.decls.take k).flatMap tD) vr wr ∧ WK b (.slice none 0 0) vr W0 wr) (fun i _ _ => m.decls.length - (intOf i).toNat)
      case atStart => exact ⟨0, vr, Nat.zero_le _, rfl, by simpa using HW.out, HK.out⟩
      case round =>
        clear HW HK x2_2
        obtain ⟨k, vr, hk, rfl, hW, hK⟩ := hrel
        have HW := hid hW
        have HK := hid hK
        have hltr := hW.lt
        have HLn := flat_len_take tD m.decls (k + 1)
        by_cases hkl : k < m.decls.length
        · obtain ⟨eb, eo, rfl, hx⟩ := (DD0.out.moves hK.moves).de k hkl
          have hkn := HOk.out.decls m.decls[k] (List.getElem_mem hkl)
          have q0 := hx.c0
          have q1 := hx.c1
          have q2 := hx.c2
          have q3 := hx.c3
          have hle := hx.lt
          have HT : Hid ((m.decls.take (k + 1)).flatMap tD = (m.decls.take k).flatMap tD ++ tD m.decls[k]) := flat_next tD hkl
          have hll : ((m.decls.take k).flatMap tD).length + (tD m.decls[k]).length ≤ (m.decls.flatMap tD).length := by
            rw [HT.out, List.length_append] at HLn
            exact HLn
          obtain ⟨Wb, hWb⟩ : ∃ Wb, Wb = wr.alloc (.cells #[.int .i64 m.decls[k].kind, .string m.decls[k].name, .bool m.decls[k].pub, .int .i64 m.decls[k].n] 58) := ⟨_, rfl⟩
          obtain ⟨y0, y1, y2, y3⟩ := box4 wr (.int .i64 m.decls[k].kind) (.string m.decls[k].name) (.bool m.decls[k].pub) (.int .i64 m.decls[k].n) 58
          rw [← hWb] at y0 y1 y2 y3
          have HWb : Hid (Wr b ([pTk tModule, pTk m.name, pTk tLb] ++ lstT tUse m.uses ++ (m.decls.take k).flatMap tD) vr Wb) := by rw [hWb]; exact hW.alloc _
          have KWb : Hid (WK b vr vr wr Wb) := by rw [hWb]; exact WK.of_below (al1 _ _) b vr
          have hzb : Wb.heap.size = wr.heap.size + 1 := by rw [hWb]; simp
          have hltb : b < Wb.heap.size := by omega
          have hxb : wr.heap.size < Wb.heap.size := by omega
          have HDc := hid (decl_w (d := m.decls[k]) hkn.1 hkn.2.2.1 hkn.2.2.2 b _ vr Wb HWb.out (by simp only [List.length_append, List.length_cons, List.length_nil]; omega))
          clear hW hK hx hkn HLn
          go_upto_region 11 with fail
          rw [← hWb]
          clear hWb
          go_wp2_with fail
          refine HDc.out.mono ?_
          rintro e W6 ⟨v6, rfl, hh, kk⟩
          have H6 : Hid (Wr b ([pTk tModule, pTk m.name, pTk tLb] ++ lstT tUse m.uses ++ (m.decls.take (k + 1)).flatMap tD) v6 W6) := by
            show Wr _ _ _ _
            rw [HT.out]
            have := hh
            simpa using this
          have K6 := hid ((HK.out.trans KWb.out).trans kk)
          clear hh kk
          go_wp2_with fail
          go_roundw
          case rel => exact ⟨k + 1, v6, by omega, by go_num, H6.out, K6.out⟩
          case measure => simp [intOf]; omega
        · have hke : m.decls.take k = m.decls := List.take_of_length_le (by omega)
          rw [hke] at HW
          have x3_3 := (hK.cell (off := 3) hx0 hf0.out).trans x3_0
          have hx3 : kb < wr.heap.size := Nat.lt_of_lt_of_le hx0 hK.size
          clear hW hK HLn hke
          go_wp2_with fail
          go_loopw [38, 9] (fun i _ wr => ∃ (k : Nat) (vr : Value) (T : List Tk), k ≤ m.procs.length ∧ i = .int .i64 k ∧ Wr b T vr wr ∧ WK b (.slice none 0 0) vr W0 wr ∧ Hid (Cut ([pTk tModule, pTk m.name, pTk tLb] ++ lstT tUse m.uses ++ m.decls.flatMap tD ++ (m.procs.take k).flatMap tP) [] T)) (fun i _ _ => m.procs.length - (intOf i).toNat)
          case atStart => exact ⟨0, vr, _, Nat.zero_le _, rfl, HW.out, HK.out, Or.inl (by simp)⟩
          case round =>
            clear HW HK x3_3
            obtain ⟨k, vr, T, hk, rfl, hW, hK, HC⟩ := hrel
            have HW := hid hW
            have HK := hid hK
            have hltr := hW.lt
            have HLn := flat_len_take tP m.procs (k + 1)
            have hTl := HC.out.len
            have hTk := flat_len_take tP m.procs k
            simp only [List.length_append, List.length_cons, List.length_nil] at hTl
            by_cases hkl : k < m.procs.length
            · obtain ⟨eb, eo, e1, f1, e2, f2, e3, f3, rfl, hx⟩ := (DP0.out.moves hK.moves).pr k hkl
              have hkn := HOk.out.procs m.procs[k] (List.getElem_mem hkl)
              have q0 := hx.c0
              have q1 := hx.c1
              have q2 := hx.c2
              have q3 := hx.c3
              have q4 := hx.c4
              have hle := hx.lt
              have HT : Hid ((m.procs.take (k + 1)).flatMap tP = (m.procs.take k).flatMap tP ++ tP m.procs[k]) := flat_next tP hkl
              have hll : ((m.procs.take k).flatMap tP).length + (tP m.procs[k]).length ≤ (m.procs.flatMap tP).length := by
                rw [HT.out, List.length_append] at HLn
                exact HLn
              obtain ⟨Wb, hWb⟩ : ∃ Wb, Wb = wr.alloc (.cells #[.string m.procs[k].name, .bool m.procs[k].pub, .slice e1 m.procs[k].params.length f1, .slice e2 m.procs[k].locals.length f2, .slice e3 m.procs[k].body.length f3] 60) := ⟨_, rfl⟩
              obtain ⟨y0, y1, y2, y3, y4⟩ := box5 wr (.string m.procs[k].name) (.bool m.procs[k].pub) (.slice e1 m.procs[k].params.length f1) (.slice e2 m.procs[k].locals.length f2) (.slice e3 m.procs[k].body.length f3) 60
              rw [← hWb] at y0 y1 y2 y3 y4
              have HWb : Hid (Wr b T vr Wb) := by rw [hWb]; exact hW.alloc _
              have KWb : Hid (WK b vr vr wr Wb) := by rw [hWb]; exact WK.of_below (al1 _ _) b vr
              have hmv : Moves wr (Off b vr) Wb (Off b vr) := by rw [hWb]; exact Moves.of_below (al1 _ _) _
              have hzb : Wb.heap.size = wr.heap.size + 1 := by rw [hWb]; simp
              have hltb : b < Wb.heap.size := by omega
              have hxb : wr.heap.size < Wb.heap.size := by omega
              have HDc := hid (proc_w m.procs[k].name m.procs[k].pub m.procs[k].params m.procs[k].locals m.procs[k].body hkn.1 hkn.2.1 hkn.2.2.1 (block_ok hkn.2.2.2) (r_br (r_sts' hkn.2.2.2)) b T vr Wb e1 e2 e3 f1 f2 f3 HWb.out (hx.params.moves hmv) (hx.locals.moves hmv) (hx.body.moves hmv) (by show T.length + (tP m.procs[k]).length ≤ _; omega))
              have HRk := hid (r_pr hkn)
              clear hW hK hx hkn HLn hmv
              go_upto_region 16 with fail
              rw [← hWb]
              clear hWb
              go_wp2_with fail
              refine HDc.out.mono ?_
              rintro e W6 ⟨T6, v6, rfl, hh, kk, hc⟩
              have H6 := hid hh
              have K6 := hid ((HK.out.trans KWb.out).trans kk)
              have C6 : Hid (Cut ([pTk tModule, pTk m.name, pTk tLb] ++ lstT tUse m.uses ++ m.decls.flatMap tD ++ (m.procs.take (k + 1)).flatMap tP) [] T6) := by
                show Cut _ _ _
                rw [HT.out, ← List.append_assoc]
                exact HC.out.trans2 hc (HRp.out k) HRk.out
              clear hh kk hc
              go_wp2_with fail
              go_roundw
              case rel => exact ⟨k + 1, v6, T6, by omega, by go_num, H6.out, K6.out, C6⟩
              case measure => simp [intOf]; omega
            · have hke : m.procs.take k = m.procs := List.take_of_length_le (by omega)
              rw [hke] at HC hTl hTk
              have HRq : Hid (Right ([pTk tModule, pTk m.name, pTk tLb] ++ lstT tUse m.uses ++ m.decls.flatMap tD ++ m.procs.flatMap tP)) := by have := HRp.out k; rw [hke] at this; exact this
              have x4_4 := (hK.cell (off := 4) hx0 hf0.out).trans x4_0
              have hx4 : kb < wr.heap.size := Nat.lt_of_lt_of_le hx0 hK.size
              have hf4 := hid (hK.off hx0 hf0.out)
              have DM4 := hid (DM0.out.moves hK.moves)
              clear hW hK HLn hke
              go_wp2_with fail
              refine (put1 b _ tMain T vr wr (by omega) HW.out (by decide) (by omega)).mono ?_
              rintro e W7 ⟨v7, rfl, hh, kk⟩
              have H7 := hid hh
              have K7 := hid (HK.out.trans kk)
              have hz7 := kk.size
              have hlt7 := hh.lt
              have x4_7 := (kk.cell (off := 4) hx4 hf4.out).trans x4_4
              have hx7 : kb < W7.heap.size := Nat.lt_of_lt_of_le hx4 kk.size
              have DM7 := hid (DM4.out.moves kk.moves)
              have C7 : Hid (Cut ([pTk tModule, pTk m.name, pTk tLb] ++ lstT tUse m.uses ++ m.decls.flatMap tD ++ m.procs.flatMap tP ++ [pTk tMain]) [] (T ++ [pTk tMain])) := HC.out.trans2 (Or.inl rfl) HRq.out (r_put (by decide))
              have HR7 : Hid (Right ([pTk tModule, pTk m.name, pTk tLb] ++ lstT tUse m.uses ++ m.decls.flatMap tD ++ m.procs.flatMap tP ++ [pTk tMain])) := HRq.out.append (r_put (by decide))
              have hL7 : (T ++ [pTk tMain]).length = T.length + 1 := by simp
              clear hh kk x4_4 DM4
              generalize T ++ [pTk tMain] = T7 at *
              go_wp2_with fail
              refine (block_ok HOk.out.main b T7 v7 W7 a4 c4 H7.out DM7.out (by unfold brT; simp; omega)).mono ?_
              rintro e W8 ⟨T8, v8, rfl, hh, kk, hc⟩
              have H8 := hid hh
              have K8 := hid (K7.out.trans kk)
              have hlt8 := hh.lt
              have C8 : Hid (Cut ([pTk tModule, pTk m.name, pTk tLb] ++ lstT tUse m.uses ++ m.decls.flatMap tD ++ m.procs.flatMap tP ++ [pTk tMain] ++ brT (tSs m.main)) [] T8) := C7.out.trans2 hc HR7.out HRm.out
              have HR8 : Hid (Right ([pTk tModule, pTk m.name, pTk tLb] ++ lstT tUse m.uses ++ m.decls.flatMap tD ++ m.procs.flatMap tP ++ [pTk tMain] ++ brT (tSs m.main))) := HR7.out.append HRm.out
              have hL8 := hc.len
              simp [brT] at hL8
              clear hh kk hc
              go_wp2_with fail
              refine (put1 b _ tRb T8 v8 W8 (by omega) H8.out (by decide) (by omega)).mono ?_
              rintro e W9 ⟨v9, rfl, hh, kk⟩
              obtain ⟨T9, hT9e⟩ : ∃ T9, T9 = T8 ++ [pTk tRb] := ⟨_, rfl⟩
              rw [← hT9e] at hh
              have K9 := hid (K8.out.trans kk)
              have C9 : Hid (Cut (tM m) [] T9) := by
                show Cut _ _ _
                rw [HE.out]
                exact C8.out.trans2 (Or.inl hT9e) HR8.out (r_put (by decide))
              obtain ⟨r9, _⟩ := hh.read
              have hlt9 := hh.lt
              obtain ⟨a9, c9, rfl, hT9⟩ := owned_toks hh.row hh.fit
              have HT9 := hid hT9
              clear hh kk hT9 hT9e
              go_wp2_with fail
              go_ret
              exact ⟨a9, c9, _, rfl, HT9.out, C9.out, wk_below (by rw [hkb]; exact HB0.out) K9.out (by rw [hkb]; exact HOf.out)⟩
/- what Show answers -/
def shoE (m : Mo) : Int := if m.err = 0 then (if 4096 < (tM m).length then 2 else 0) else m.err
def shoS (m : Mo) : ByteArray := if shoE m = 0 then showR (tM m) else ⟨#[]⟩
theorem check_cut {m : Mo} {ts : List Tk} (h : m.err = 0) (hc : Cut (tM m) [] ts) : checkN ts = shoE m ∧ showR ts = shoS m := by
  have hr := r_mo (mo_ok h)
  have hR : Right ts := hc.right hr .nil
  by_cases hl : 4096 < (tM m).length
  · have hE : shoE m = 2 := by unfold shoE; rw [if_pos h, if_pos hl]
    have hlt : 4096 < ts.length := by
      rcases hc with rfl | hc
      · simpa using hl
      · exact hc.1
    have e := checkN_many hR.1 hR.2 hlt
    refine ⟨by rw [e, hE], ?_⟩
    unfold showR shoS
    rw [e, hE]; rfl
  · have hE : shoE m = 0 := by unfold shoE; rw [if_pos h, if_neg hl]
    have hts : ts = tM m := by
      rcases hc with rfl | hc
      · simp
      · have := hc.1
        have := hc.2.1
        simp at this
        omega
    subst hts
    have e := checkN_ok hR.1 hR.2 hl
    refine ⟨by rw [e, hE], ?_⟩
    unfold shoS
    rw [if_pos hE]
set_option maxRecDepth 100000 in
set_option maxHeartbeats 1600000 in
theorem tShow_any (m : Mo) (v : Value) (a1 : Option Addr) (c1 : Nat) (a2 : Option Addr) (c2 : Nat) (a3 : Option Addr) (c3 : Nat) (a4 : Option Addr) (c4 : Nat) (w : World) (htab : Tab w) (hM : MoAt w Tt m v a1 c1 a2 c2 a3 c3 a4 c4) :
    Calls Tryz.prog 12 #[v] w fun e w' => e = .returned (.tuple #[.string (shoS m), .int .i64 (shoE m)]) ∧ Below w.heap.size w w' := by
  obtain rfl := hM.val
  have HM := hid hM
  have HTab := hid htab
  obtain ⟨W0, hW0⟩ : ∃ W0, W0 = w.alloc (.cells #[.string m.name, .slice a1 m.uses.length c1, .slice a2 m.decls.length c2, .slice a3 m.procs.length c3, .slice a4 m.main.length c4] 27) := ⟨_, rfl⟩
  have HB0 : Hid (Below w.heap.size w W0) := by rw [hW0]; exact al1 _ _
  have hbx : W0.heap[w.heap.size]? = some (.cells #[.string m.name, .slice a1 m.uses.length c1, .slice a2 m.decls.length c2, .slice a3 m.procs.length c3, .slice a4 m.main.length c4] 27 (0, 0)) := by rw [hW0]; exact heap_newP _ _
  obtain ⟨x0, x1, x2, x3, x4, _⟩ := cellsOf5 hbx
  have HBx := hid hbx
  have hz0 : W0.heap.size = w.heap.size + 1 := by rw [hW0]; simp
  have hx0 : w.heap.size < W0.heap.size := by omega
  clear hM htab hbx
  go_enter Tryz.func12, Tryz.ntmps12
  go_upto_region 1 with fail
  rw [← hW0]
  clear hW0
  go_wp2_with fail
  refine (tCheck_any m _ a1 c1 a2 c2 a3 c3 a4 c4 W0 (HM.out.later HB0.out)).mono ?_
  rintro e W1 ⟨rfl, hb1⟩
  have hbb1 := thenB HB0.out hb1
  have HBl := hid hbb1
  have hbx1 := (hb1.block w.heap.size hx0).trans HBx.out
  clear x0 x1 x2 x3 x4
  obtain ⟨x0, x1, x2, x3, x4, _⟩ := cellsOf5 hbx1
  have hx1 : w.heap.size < W1.heap.size := Nat.lt_of_lt_of_le hx0 hb1.size
  clear hb1 hbb1 hbx1
  by_cases he : m.err = 0
  · have HE := hid he
    have HL := hid (tM_len (err_zero he).2.1)
    have HOk := hid (mo_ok he)
    rw [he]
    clear he
    go_wp2_with fail
    refine (moduleTokens_any m HOk.out HL.out _ a1 c1 a2 c2 a3 c3 a4 c4 W1 (HM.out.later HBl.out)).mono ?_
    rintro e W2 ⟨a, cap, ts, rfl, hT, hC, hb2⟩
    have HT := hid hT
    have HCk := hid (check_cut HE.out hC)
    have HBl2 := hid (thenB HBl.out hb2)
    have hln : ts.length ≤ 1000000000000000 := by
      have h1 := hC.len
      have h2 := HL.out
      simp at h1
      omega
    clear hT hC hb2
    go_wp2_with fail
    refine (Show_any a cap ts W2 HT.out hln (HTab.out.later HBl2.out)).mono ?_
    rw [HCk.out.1, HCk.out.2]
    rintro e W3 ⟨rfl, hb3⟩
    have HBl3 := hid (thenB HBl2.out hb3)
    clear hb3
    go_wp2_with fail
    go_ret2
    exact ⟨rfl, HBl3.out⟩
  · have HE : Hid (shoE m = m.err ∧ shoS m = ⟨#[]⟩) := by
      have h1 : shoE m = m.err := by unfold shoE; rw [if_neg he]
      refine ⟨h1, ?_⟩
      unfold shoS; rw [if_neg (by rw [h1]; exact he)]
    have heb : (m.err == 0) = false := by simp [he]
    go_wp2_with fail
    go_ret2
    exact ⟨by rw [HE.out.1, HE.out.2]; rfl, HBl.out⟩
end Go.Proofs.YtcekpobmbmnplaaGreatDoor
