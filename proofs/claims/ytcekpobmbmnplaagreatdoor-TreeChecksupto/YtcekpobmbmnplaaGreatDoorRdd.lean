/-
  stmtLook, level 3: no name.
-/
import Derived.Test.YtcekpobmbmnplaaGreatDoorRc
namespace Go.Proofs.YtcekpobmbmnplaaGreatDoor
open Go.RowKit Go.Maps
set_option maxRecDepth 100000 in
set_option maxHeartbeats 8000000 in
theorem stmtStep3b (A : Nat → Prop) (k : Nat) (op : Int) (mod name : ByteArray) (l : List Ex) (bd ot : List St) (aa ab ac : Option Addr) (cap cab cac : Nat) (deep : Int) (w : World) (hbd : l.length ≤ 17592186044416) (hd1 : 1 ≤ deep) (hd6 : deep ≤ 6)
    (HI : Hid (∀ (l : List St) (a : Option Addr) (cap : Nat) (w : World), DAt w A a l.length (stsD l) → Calls Tryz.prog 45 #[.slice a l.length cap, .int .i64 3, .int .i64 (deep + 1)] w fun e w' => e = .returned (.bool (bL 3 k l)) ∧ Below w.heap.size w w'))
    (HD : Hid (DAt w A aa l.length (exsD l))) (HDb : Hid (DAt w A ab bd.length (stsD bd))) (HDo : Hid (DAt w A ac ot.length (stsD ot))) (_HWm : Hid (mod.size ≤ maxLen)) (_HWn : Hid (name.size ≤ maxLen))
    (hR : inB op 1 3 = false) (hm : mod.toList.isEmpty = true) (hn : name.toList.isEmpty = true) :
    Calls Tryz.prog 81 #[.agg #[.int .i64 op, .string mod, .string name, .slice aa l.length cap, .slice ab bd.length cab, .slice ac ot.length cac], .int .i64 3, .int .i64 deep] w fun e w' => e = .returned (.bool (sL 3 k (St.mk op mod name l bd ot))) ∧ Below w.heap.size w w' := by
  have HR : Hid (∀ {b : Bool}, (sBad 3 (St.mk op mod name l bd ot) || (l.any (eL 3 6) || (((op == 4 || op == 5) || decide (0 < bd.length)) && bL 3 k bd || (decide (0 < ot.length) && bL 3 k ot)))) = b → b = sL 3 k (St.mk op mod name l bd ot)) := fun h => by rw [← h]; rfl
  have HBx : Hid (Blk (w.alloc (.cells #[.int .i64 op, .string mod, .string name, .slice aa l.length cap, .slice ab bd.length cab, .slice ac ot.length cac] 47)) w.heap.size [.int .i64 op, .string mod, .string name, .slice aa l.length cap, .slice ab bd.length cab, .slice ac ot.length cac]) := Blk.new w _ _
  have HB0 : Hid (Below w.heap.size w (w.alloc (.cells #[.int .i64 op, .string mod, .string name, .slice aa l.length cap, .slice ab bd.length cab, .slice ac ot.length cac] 47))) := al1 _ _
  have HC : Hid (sBad 3 (St.mk op mod name l bd ot) = ((inB op 1 3 && !fineB mod name) || (!inB op 1 3 && (!mod.toList.isEmpty || !name.toList.isEmpty)) || (decide (0 ≤ stN op) && ((l.length : Int) != stN op)) || (op != 4 && op != 5 && decide (0 < bd.length)) || (op != 4 && decide (0 < ot.length)))) := rfl
  generalize hCC : sBad 3 (St.mk op mod name l bd ot) = C at HC HR
  clear hCC
  go_enter Tryz.func81, Tryz.ntmps81
  go_upto_region 9 with fail
  generalize hW0 : w.alloc (.cells #[.int .i64 op, .string mod, .string name, .slice aa l.length cap, .slice ab bd.length cab, .slice ac ot.length cac] 47) = W0 at *
  clear hW0
  go_cut [92] (fun v wc => v = .bool C ∧ Hid (Below W0.heap.size W0 wc))
  case first =>
    clear HD HDb HDo HI HR HB0
    obtain ⟨x0, x1, x2, x3, x4, x5, xz⟩ := HBx.out.c6
    have HBz : Hid (Below W0.heap.size W0 W0.drew) := (Below.refl _ _).drew
    generalize hq : stN op = q at *
    simp only [List.append_eq, List.cons_append, List.nil_append]
    have hq1 : q = 1 := by rw [← hq]; unfold stN; rw [if_neg (by intro e; subst e; simp [inB] at hR), if_neg (by intro e; subst e; simp [inB] at hR)]
    subst hq1
    cases hl : ((l.length : Int) != 1) with
    | true =>
      have HE : Hid (C = true) := by show _ = _; rw [HC.out]; simp [hR, hm, hn, hl]
      go_quiet ((first | (go_at_call 112; exact Calls.quiet_of_same (stmtRef_at hR _)) | (go_at_call 114; exact Calls.quiet_of_same (stmtArgs_at hq _))))
      go_wp2_with fail
      go_meet
      exact ⟨by rw [HE.out], drewN_below _ _⟩
    | false =>
      cases h4 : (op != 4) with
      | false =>
        have HE : Hid (C = false) := by show _ = _; rw [HC.out]; simp [hR, hm, hn, hl, h4]
        go_quiet ((first | (go_at_call 112; exact Calls.quiet_of_same (stmtRef_at hR _)) | (go_at_call 114; exact Calls.quiet_of_same (stmtArgs_at hq _))))
        go_wp2_with fail
        go_meet
        exact ⟨by rw [HE.out], drewN_below _ _⟩
      | true =>
        cases h5 : (op != 5) with
        | false =>
          have HE : Hid (C = decide (0 < ot.length)) := by show _ = _; rw [HC.out]; simp [hR, hm, hn, hl, h4, h5]
          go_quiet ((first | (go_at_call 112; exact Calls.quiet_of_same (stmtRef_at hR _)) | (go_at_call 114; exact Calls.quiet_of_same (stmtArgs_at hq _))))
          go_wp2_with fail
          go_meet
          exact ⟨by rw [HE.out], drewN_below _ _⟩
        | true =>
          cases hb : decide (0 < bd.length) with
          | true =>
            have HE : Hid (C = true) := by show _ = _; rw [HC.out]; simp [hR, hm, hn, hl, h4, h5, hb]
            go_quiet ((first | (go_at_call 112; exact Calls.quiet_of_same (stmtRef_at hR _)) | (go_at_call 114; exact Calls.quiet_of_same (stmtArgs_at hq _))))
            go_wp2_with fail
            go_meet
            exact ⟨by rw [HE.out], drewN_below _ _⟩
          | false =>
            have HE : Hid (C = decide (0 < ot.length)) := by show _ = _; rw [HC.out]; simp [hR, hm, hn, hl, h4, h5, hb]
            go_quiet ((first | (go_at_call 112; exact Calls.quiet_of_same (stmtRef_at hR _)) | (go_at_call 114; exact Calls.quiet_of_same (stmtArgs_at hq _))))
            go_wp2_with fail
            go_meet
            exact ⟨by rw [HE.out], drewN_below _ _⟩
  case rest =>
    obtain ⟨rfl, HBc⟩ := hcut
    have HB0' : Hid (Below w.heap.size w wc) := thenB HB0.out HBc.out
    have HBx' : Hid (Blk wc w.heap.size [.int .i64 op, .string mod, .string name, .slice aa l.length cap, .slice ab bd.length cab, .slice ac ot.length cac]) := HBx.out.later HBc.out
    clear HB0 HBx HBc HC
    have HB0 := HB0'
    have HBx := HBx'
    clear HB0' HBx'
    obtain ⟨x0, x1, x2, x3, x4, x5, xz⟩ := HBx.out.c6
    clear x0 x1 x2 x4 x5
    cases hCb : C with
    | true =>
      subst hCb
      go_wp2_with fail
      go_ret
      exact ⟨ret_bool (HR.out rfl), HB0.out⟩
    | false =>
      subst hCb
      go_wp2_with fail
      go_loopw [7] (fun i wr => ∃ j : Nat, j ≤ l.length ∧ i = .int .i64 j ∧ (l.take j).any (eL 3 6) = false ∧ Below w.heap.size w wr ∧ Blk wr w.heap.size [.int .i64 op, .string mod, .string name, .slice aa l.length cap, .slice ab bd.length cab, .slice ac ot.length cac]) (fun i _ => l.length - (intOf i).toNat)
      case atStart => exact ⟨0, Nat.zero_le _, rfl, rfl, HB0.out, HBx.out⟩
      case round =>
        obtain ⟨j, hj, rfl, hall, hb, hB⟩ := hrel
        clear HBx HB0
        clear x3 xz
        obtain ⟨q0, q1, q2, q3, q4, q5, qz⟩ := hB.c6
        clear q1 q2
        have HB : Hid (Blk wr w.heap.size [.int .i64 op, .string mod, .string name, .slice aa l.length cap, .slice ab bd.length cab, .slice ac ot.length cac]) := hB
        have HA : Hid ((l.take j).any (eL 3 6) = false) := hall
        clear hall hB
        by_cases hlt : j < l.length
        · obtain ⟨b, off, a2, cp, rfl, hx⟩ := (HD.out.later hb).ex j hlt
          have hc0 := hx.c0
          have hc1 := hx.c1
          have hc2 := hx.c2
          have hc3 := hx.c3
          have hc4 := hx.c4
          have hlb := hx.lt
          have HX : Hid (ExAt wr A b (off + j * 5) l[j] a2 cp) := hx
          clear hx
          go_wp2_with fail
          refine (exprLook_any A 6 (by omega) 3 (by omega) l[j] a2 cp 1 _ (by omega) HX.out.args HX.out.wm HX.out.wna).mono ?_
          cases hr : eL 3 6 l[j] with
          | true =>
            have HF : Hid (l.any (eL 3 6) = true) := any_at l _ j hlt hr
            rintro e w3 ⟨rfl, hb3⟩
            go_wp2_with fail
            go_ret
            exact ⟨ret_bool (HR.out (by rw [HF.out]; simp)), thenB hb hb3⟩
          | false =>
            have HT : Hid ((l.take (j + 1)).any (eL 3 6) = false) := by
              show _ = _
              rw [any_snoc l _ j hlt, HA.out, hr]; rfl
            rintro e w3 ⟨rfl, hb3⟩
            go_wp2_with fail
            go_roundw
            case rel => exact ⟨j + 1, by omega, by go_num, HT.out, thenB hb hb3, HB.out.later hb3⟩
            case measure => simp [intOf]; omega
        · have HT : Hid (l.any (eL 3 6) = false) := any_end HA.out hlt
          have HS : Hid (∀ {b : Bool}, (((op == 4 || op == 5) || decide (0 < bd.length)) && bL 3 k bd || (decide (0 < ot.length) && bL 3 k ot)) = b → b = sL 3 k (St.mk op mod name l bd ot)) := fun h => HR.out (by rw [HT.out, Bool.false_or, Bool.false_or]; exact h)
          clear HR HT HA HD
          have HDb' : Hid (DAt wr A ab bd.length (stsD bd)) := HDb.out.later hb
          have HDo' : Hid (DAt wr A ac ot.length (stsD ot)) := HDo.out.later hb
          clear HDb HDo
          cases h4 : (op == 4) with
          | true =>
            go_wp2_with fail
            refine (HI.out bd ab cab _ HDb'.out).mono ?_
            cases hr1 : bL 3 k bd with
            | true =>
              rintro e w4 ⟨rfl, c1⟩
              go_wp2_with fail
              go_ret
              exact ⟨ret_bool (HS.out (by simp [hr1, h4])), thenB hb c1⟩
            | false =>
              rintro e w4 ⟨rfl, c1⟩
              clear q0 q3 q4 q5 qz
              obtain ⟨q0, q1, q2, q3, q4, q5, qz⟩ := (HB.out.later c1).c6
              clear q0 q1 q2 q3 q4
              by_cases ho : 0 < ot.length
              · go_wp2_with fail
                refine (HI.out ot ac cac _ (HDo'.out.later c1)).mono ?_
                cases hr2 : bL 3 k ot with
                | true =>
                  rintro e w5 ⟨rfl, c2⟩
                  go_wp2_with fail
                  go_ret
                  exact ⟨ret_bool (HS.out (by simp [hr2, ho])), thenB (thenB hb c1) c2⟩
                | false =>
                  rintro e w5 ⟨rfl, c2⟩
                  go_wp2_with fail
                  go_ret
                  exact ⟨ret_bool (HS.out (by simp [hr2, hr1])), thenB (thenB hb c1) c2⟩
              · go_wp2_with fail
                go_ret
                exact ⟨ret_bool (HS.out (by simp [ho, hr1])), (thenB hb c1)⟩
          | false =>
            cases h5 : (op == 5) with
            | true =>
              go_wp2_with fail
              refine (HI.out bd ab cab _ HDb'.out).mono ?_
              cases hr1 : bL 3 k bd with
              | true =>
                rintro e w4 ⟨rfl, c1⟩
                go_wp2_with fail
                go_ret
                exact ⟨ret_bool (HS.out (by simp [hr1, h4, h5])), thenB hb c1⟩
              | false =>
                rintro e w4 ⟨rfl, c1⟩
                clear q0 q3 q4 q5 qz
                obtain ⟨q0, q1, q2, q3, q4, q5, qz⟩ := (HB.out.later c1).c6
                clear q0 q1 q2 q3 q4
                by_cases ho : 0 < ot.length
                · go_wp2_with fail
                  refine (HI.out ot ac cac _ (HDo'.out.later c1)).mono ?_
                  cases hr2 : bL 3 k ot with
                  | true =>
                    rintro e w5 ⟨rfl, c2⟩
                    go_wp2_with fail
                    go_ret
                    exact ⟨ret_bool (HS.out (by simp [hr2, ho])), thenB (thenB hb c1) c2⟩
                  | false =>
                    rintro e w5 ⟨rfl, c2⟩
                    go_wp2_with fail
                    go_ret
                    exact ⟨ret_bool (HS.out (by simp [hr2, hr1])), thenB (thenB hb c1) c2⟩
                · go_wp2_with fail
                  go_ret
                  exact ⟨ret_bool (HS.out (by simp [ho, hr1])), (thenB hb c1)⟩
            | false =>
              by_cases hb0 : 0 < bd.length
              · skip
                go_wp2_with fail
                refine (HI.out bd ab cab _ HDb'.out).mono ?_
                cases hr1 : bL 3 k bd with
                | true =>
                  rintro e w4 ⟨rfl, c1⟩
                  go_wp2_with fail
                  go_ret
                  exact ⟨ret_bool (HS.out (by simp [hr1, h4, h5, hb0])), thenB hb c1⟩
                | false =>
                  rintro e w4 ⟨rfl, c1⟩
                  clear q0 q3 q4 q5 qz
                  obtain ⟨q0, q1, q2, q3, q4, q5, qz⟩ := (HB.out.later c1).c6
                  clear q0 q1 q2 q3 q4
                  by_cases ho : 0 < ot.length
                  · go_wp2_with fail
                    refine (HI.out ot ac cac _ (HDo'.out.later c1)).mono ?_
                    cases hr2 : bL 3 k ot with
                    | true =>
                      rintro e w5 ⟨rfl, c2⟩
                      go_wp2_with fail
                      go_ret
                      exact ⟨ret_bool (HS.out (by simp [hr2, ho])), thenB (thenB hb c1) c2⟩
                    | false =>
                      rintro e w5 ⟨rfl, c2⟩
                      go_wp2_with fail
                      go_ret
                      exact ⟨ret_bool (HS.out (by simp [hr2, hr1])), thenB (thenB hb c1) c2⟩
                  · go_wp2_with fail
                    go_ret
                    exact ⟨ret_bool (HS.out (by simp [ho, hr1])), (thenB hb c1)⟩
              · skip
                by_cases ho : 0 < ot.length
                · go_wp2_with fail
                  refine (HI.out ot ac cac _ HDo'.out).mono ?_
                  cases hr2 : bL 3 k ot with
                  | true =>
                    rintro e w5 ⟨rfl, c2⟩
                    go_wp2_with fail
                    go_ret
                    exact ⟨ret_bool (HS.out (by simp [hr2, ho])), thenB hb c2⟩
                  | false =>
                    rintro e w5 ⟨rfl, c2⟩
                    go_wp2_with fail
                    go_ret
                    exact ⟨ret_bool (HS.out (by simp [hr2, h4, h5, hb0])), thenB hb c2⟩
                · go_wp2_with fail
                  go_ret
                  exact ⟨ret_bool (HS.out (by simp [ho, h4, h5, hb0])), hb⟩
end Go.Proofs.YtcekpobmbmnplaaGreatDoor
