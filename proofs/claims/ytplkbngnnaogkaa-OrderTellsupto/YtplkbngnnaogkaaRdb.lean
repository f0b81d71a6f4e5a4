/-
  stmtLook: level 2.
-/
import Derived.Test.YtplkbngnnaogkaaRd
namespace Go.Proofs.Ytplkbngnnaogkaa
open Go.RowKit Go.Maps

set_option maxRecDepth 100000 in
set_option maxHeartbeats 8000000 in
theorem stmtStep2 (A : Nat → Prop) (k : Nat) (op : Int) (mod name : ByteArray) (l : List Ex) (bd ot : List St) (aa ab ac : Option Addr) (cap cab cac : Nat) (deep : Int) (w : World) (hbd : l.length ≤ 17592186044416) (hd1 : 1 ≤ deep) (hd6 : deep ≤ 6)
    (HI : Hid (∀ (l : List St) (a : Option Addr) (cap : Nat) (w : World), DAt w A a l.length (stsD l) → Calls Try.prog 66 #[.slice a l.length cap, .int .i64 2, .int .i64 (deep + 1)] w fun e w' => e = .returned (.bool (bL 2 k l)) ∧ Below w.heap.size w w'))
    (HD : Hid (DAt w A aa l.length (exsD l))) (HDb : Hid (DAt w A ab bd.length (stsD bd))) (HDo : Hid (DAt w A ac ot.length (stsD ot))) (_HWm : Hid (mod.size ≤ maxLen)) (_HWn : Hid (name.size ≤ maxLen)) :
    Calls Try.prog 84 #[.agg #[.int .i64 op, .string mod, .string name, .slice aa l.length cap, .slice ab bd.length cab, .slice ac ot.length cac], .int .i64 2, .int .i64 deep] w fun e w' => e = .returned (.bool (sL 2 k (St.mk op mod name l bd ot))) ∧ Below w.heap.size w w' := by
  have HR : Hid (∀ {b : Bool}, (sBad 2 (St.mk op mod name l bd ot) || (l.any (eL 2 6) || (((op == 4 || op == 5) || decide (0 < bd.length)) && bL 2 k bd || (decide (0 < ot.length) && bL 2 k ot)))) = b → b = sL 2 k (St.mk op mod name l bd ot)) := fun h => by rw [← h]; rfl
  have HBx : Hid (Blk (w.alloc (.cells #[.int .i64 op, .string mod, .string name, .slice aa l.length cap, .slice ab bd.length cab, .slice ac ot.length cac] 105)) w.heap.size [.int .i64 op, .string mod, .string name, .slice aa l.length cap, .slice ab bd.length cab, .slice ac ot.length cac]) := Blk.new w _ _
  have HB0 : Hid (Below w.heap.size w (w.alloc (.cells #[.int .i64 op, .string mod, .string name, .slice aa l.length cap, .slice ab bd.length cab, .slice ac ot.length cac] 105))) := al1 _ _
  by_cases h3 : 3 < l.length
  · have HQ : Hid (sBad 2 (St.mk op mod name l bd ot) = true) := decide_eq_true h3
    go_enter Try.func84, Try.ntmps84
    go_wp2_with fail
    go_ret
    exact ⟨ret_bool (HR.out (by rw [HQ.out]; rfl)), HB0.out⟩
  · have HQ : Hid (sBad 2 (St.mk op mod name l bd ot) = false) := decide_eq_false h3
    go_enter Try.func84, Try.ntmps84
    go_wp2_with fail
    go_loopw [7] (fun i wr => ∃ j : Nat, j ≤ l.length ∧ i = .int .i64 j ∧ (l.take j).any (eL 2 6) = false ∧ Below w.heap.size w wr ∧ Blk wr w.heap.size [.int .i64 op, .string mod, .string name, .slice aa l.length cap, .slice ab bd.length cab, .slice ac ot.length cac]) (fun i _ => l.length - (intOf i).toNat)
    case atStart => exact ⟨0, Nat.zero_le _, rfl, rfl, HB0.out, HBx.out⟩
    case round =>
      obtain ⟨j, hj, rfl, hall, hb, hB⟩ := hrel
      clear HBx HB0
      obtain ⟨q0, q1, q2, q3, q4, q5, qz⟩ := hB.c6
      clear q1 q2
      have HB : Hid (Blk wr w.heap.size [.int .i64 op, .string mod, .string name, .slice aa l.length cap, .slice ab bd.length cab, .slice ac ot.length cac]) := hB
      have HA : Hid ((l.take j).any (eL 2 6) = false) := hall
      clear hall hB
      by_cases hlt : j < l.length
      · obtain ⟨b, off, a2, cp, rfl, hx⟩ := (HD.out.later hb).ex j hlt
        have hc0 := hx.c0
        have hc1 := hx.c1
        have hc2 := hx.c2
        have hc3 := hx.c3
        have hc4 := hx.c4
        have hlb := hx.lt
        have HX : Hid (ExAt wr A b (off + j * 5) l[j] a2 cp) := hx
        clear hx
        go_wp2_with fail
        refine (exprLook_any A 6 (by omega) 2 (by omega) l[j] a2 cp 1 _ (by omega) HX.out.args HX.out.wm HX.out.wna).mono ?_
        cases hr : eL 2 6 l[j] with
        | true =>
          have HF : Hid (l.any (eL 2 6) = true) := any_at l _ j hlt hr
          rintro e w3 ⟨rfl, hb3⟩
          go_wp2_with fail
          go_ret
          exact ⟨ret_bool (HR.out (by rw [HF.out]; simp)), thenB hb hb3⟩
        | false =>
          have HT : Hid ((l.take (j + 1)).any (eL 2 6) = false) := by
            show _ = _
            rw [any_snoc l _ j hlt, HA.out, hr]; rfl
          rintro e w3 ⟨rfl, hb3⟩
          go_wp2_with fail
          go_roundw
          case rel => exact ⟨j + 1, by omega, by go_num, HT.out, thenB hb hb3, HB.out.later hb3⟩
          case measure => simp [intOf]; omega
      · have HT : Hid (l.any (eL 2 6) = false) := any_end HA.out hlt
        have HS : Hid (∀ {b : Bool}, (((op == 4 || op == 5) || decide (0 < bd.length)) && bL 2 k bd || (decide (0 < ot.length) && bL 2 k ot)) = b → b = sL 2 k (St.mk op mod name l bd ot)) := fun h => HR.out (by rw [HT.out, HQ.out, Bool.false_or, Bool.false_or]; exact h)
        clear HR HT HA HD
        have HDb' : Hid (DAt wr A ab bd.length (stsD bd)) := HDb.out.later hb
        have HDo' : Hid (DAt wr A ac ot.length (stsD ot)) := HDo.out.later hb
        clear HDb HDo
        cases h4 : (op == 4) with
        | true =>
          go_wp2_with fail
          refine (HI.out bd ab cab _ HDb'.out).mono ?_
          cases hr1 : bL 2 k bd with
          | true =>
            rintro e w4 ⟨rfl, c1⟩
            go_wp2_with fail
            go_ret
            exact ⟨ret_bool (HS.out (by simp [hr1, h4])), thenB hb c1⟩
          | false =>
            rintro e w4 ⟨rfl, c1⟩
            clear q0 q3 q4 q5 qz
            obtain ⟨q0, q1, q2, q3, q4, q5, qz⟩ := (HB.out.later c1).c6
            clear q0 q1 q2 q3 q4
            by_cases ho : 0 < ot.length
            · go_wp2_with fail
              refine (HI.out ot ac cac _ (HDo'.out.later c1)).mono ?_
              cases hr2 : bL 2 k ot with
              | true =>
                rintro e w5 ⟨rfl, c2⟩
                go_wp2_with fail
                go_ret
                exact ⟨ret_bool (HS.out (by simp [hr2, ho])), thenB (thenB hb c1) c2⟩
              | false =>
                rintro e w5 ⟨rfl, c2⟩
                go_wp2_with fail
                go_ret
                exact ⟨ret_bool (HS.out (by simp [hr2, hr1])), thenB (thenB hb c1) c2⟩
            · go_wp2_with fail
              go_ret
              exact ⟨ret_bool (HS.out (by simp [ho, hr1])), (thenB hb c1)⟩
        | false =>
          cases h5 : (op == 5) with
          | true =>
            go_wp2_with fail
            refine (HI.out bd ab cab _ HDb'.out).mono ?_
            cases hr1 : bL 2 k bd with
            | true =>
              rintro e w4 ⟨rfl, c1⟩
              go_wp2_with fail
              go_ret
              exact ⟨ret_bool (HS.out (by simp [hr1, h4, h5])), thenB hb c1⟩
            | false =>
              rintro e w4 ⟨rfl, c1⟩
              clear q0 q3 q4 q5 qz
              obtain ⟨q0, q1, q2, q3, q4, q5, qz⟩ := (HB.out.later c1).c6
              clear q0 q1 q2 q3 q4
              by_cases ho : 0 < ot.length
              · go_wp2_with fail
                refine (HI.out ot ac cac _ (HDo'.out.later c1)).mono ?_
                cases hr2 : bL 2 k ot with
                | true =>
                  rintro e w5 ⟨rfl, c2⟩
                  go_wp2_with fail
                  go_ret
                  exact ⟨ret_bool (HS.out (by simp [hr2, ho])), thenB (thenB hb c1) c2⟩
                | false =>
                  rintro e w5 ⟨rfl, c2⟩
                  go_wp2_with fail
                  go_ret
                  exact ⟨ret_bool (HS.out (by simp [hr2, hr1])), thenB (thenB hb c1) c2⟩
              · go_wp2_with fail
                go_ret
                exact ⟨ret_bool (HS.out (by simp [ho, hr1])), (thenB hb c1)⟩
          | false =>
            by_cases hb0 : 0 < bd.length
            · skip
              go_wp2_with fail
              refine (HI.out bd ab cab _ HDb'.out).mono ?_
              cases hr1 : bL 2 k bd with
              | true =>
                rintro e w4 ⟨rfl, c1⟩
                go_wp2_with fail
                go_ret
                exact ⟨ret_bool (HS.out (by simp [hr1, h4, h5, hb0])), thenB hb c1⟩
              | false =>
                rintro e w4 ⟨rfl, c1⟩
                clear q0 q3 q4 q5 qz
                obtain ⟨q0, q1, q2, q3, q4, q5, qz⟩ := (HB.out.later c1).c6
                clear q0 q1 q2 q3 q4
                by_cases ho : 0 < ot.length
                · go_wp2_with fail
                  refine (HI.out ot ac cac _ (HDo'.out.later c1)).mono ?_
                  cases hr2 : bL 2 k ot with
                  | true =>
                    rintro e w5 ⟨rfl, c2⟩
                    go_wp2_with fail
                    go_ret
                    exact ⟨ret_bool (HS.out (by simp [hr2, ho])), thenB (thenB hb c1) c2⟩
                  | false =>
                    rintro e w5 ⟨rfl, c2⟩
                    go_wp2_with fail
                    go_ret
                    exact ⟨ret_bool (HS.out (by simp [hr2, hr1])), thenB (thenB hb c1) c2⟩
                · go_wp2_with fail
                  go_ret
                  exact ⟨ret_bool (HS.out (by simp [ho, hr1])), (thenB hb c1)⟩
            · skip
              by_cases ho : 0 < ot.length
              · go_wp2_with fail
                refine (HI.out ot ac cac _ HDo'.out).mono ?_
                cases hr2 : bL 2 k ot with
                | true =>
                  rintro e w5 ⟨rfl, c2⟩
                  go_wp2_with fail
                  go_ret
                  exact ⟨ret_bool (HS.out (by simp [hr2, ho])), thenB hb c2⟩
                | false =>
                  rintro e w5 ⟨rfl, c2⟩
                  go_wp2_with fail
                  go_ret
                  exact ⟨ret_bool (HS.out (by simp [hr2, h4, h5, hb0])), thenB hb c2⟩
              · go_wp2_with fail
                go_ret
                exact ⟨ret_bool (HS.out (by simp [ho, h4, h5, hb0])), hb⟩
end Go.Proofs.Ytplkbngnnaogkaa
