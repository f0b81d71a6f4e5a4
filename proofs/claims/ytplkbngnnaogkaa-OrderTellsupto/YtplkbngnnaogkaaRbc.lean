/-
  exprLook, level 3: a number.
-/
import Derived.Test.YtplkbngnnaogkaaRb
namespace Go.Proofs.Ytplkbngnnaogkaa
open Go.RowKit Go.Maps

set_option maxRecDepth 100000 in
set_option maxHeartbeats 8000000 in
theorem exprStep3b (A : Nat → Prop) (k : Nat) (op n : Int) (mod name : ByteArray) (l : List Ex) (aa : Option Addr) (cap : Nat) (deep : Int) (w : World) (hbd : l.length ≤ 17592186044416) (hd1 : 1 ≤ deep) (hd6 : deep ≤ 6)
    (HI : Hid (∀ (x : Ex) (aa : Option Addr) (cap : Nat) (w : World), DAt w A aa x.args.length (exsD x.args) → x.mod.size ≤ maxLen → x.name.size ≤ maxLen →
      Calls Try.prog 93 #[.agg #[.int .i64 x.op, .int .i64 x.n, .string x.mod, .string x.name, .slice aa x.args.length cap], .int .i64 3, .int .i64 (deep + 1)] w fun e w' => e = .returned (.bool (eL 3 k x)) ∧ Below w.heap.size w w'))
    (HD : Hid (DAt w A aa l.length (exsD l))) (_HWm : Hid (mod.size ≤ maxLen)) (_HWn : Hid (name.size ≤ maxLen))
    (hR : inB op 3 5 = false) (hm : mod.toList.isEmpty = true) (hn : name.toList.isEmpty = true) (ho : Hid (op = 1)) :
    Calls Try.prog 93 #[.agg #[.int .i64 op, .int .i64 n, .string mod, .string name, .slice aa l.length cap], .int .i64 3, .int .i64 deep] w fun e w' => e = .returned (.bool (eL 3 (k + 1) (.mk op n mod name l))) ∧ Below w.heap.size w w' := by
  have HR : Hid (∀ {b : Bool}, (eBad 3 (.mk op n mod name l) || l.any (eL 3 k)) = b → b = eL 3 (k + 1) (.mk op n mod name l)) := fun h => by rw [← h]; simp [eL, Ex.args]
  have HBx : Hid (Blk (w.alloc (.cells #[.int .i64 op, .int .i64 n, .string mod, .string name, .slice aa l.length cap] 122)) w.heap.size [.int .i64 op, .int .i64 n, .string mod, .string name, .slice aa l.length cap]) := Blk.new w _ _
  have HB0 : Hid (Below w.heap.size w (w.alloc (.cells #[.int .i64 op, .int .i64 n, .string mod, .string name, .slice aa l.length cap] 122))) := al1 _ _
  have HC : Hid (eBad 3 (.mk op n mod name l) = ((inB op 3 5 && !fineB mod name) || (!inB op 3 5 && (!mod.toList.isEmpty || !name.toList.isEmpty)) || (op == 1 && !inB n 0 1099511627775) || (op != 1 && n != 0) || (decide (0 ≤ exN op) && ((l.length : Int) != exN op)))) := rfl
  generalize hCC : eBad 3 (.mk op n mod name l) = C at HC HR
  clear hCC
  go_enter Try.func93, Try.ntmps93
  go_upto_region 11 with fail
  generalize hW0 : w.alloc (.cells #[.int .i64 op, .int .i64 n, .string mod, .string name, .slice aa l.length cap] 122) = W0 at *
  clear hW0
  go_cut [89] (fun v wc => v = .bool C ∧ Hid (Below W0.heap.size W0 wc))
  case first =>
    clear HD HI HR HB0
    obtain ⟨x0, x1, x2, x3, x4, xz⟩ := HBx.out.c5
    have HBz : Hid (Below W0.heap.size W0 W0.drew) := (Below.refl _ _).drew
    generalize hq : exN op = q at *
    have ho := ho.out
    have ho1 : (op == 1) = true := beq_iff_eq.2 ho
    have ho2 : (op != 1) = false := by simp [ho]
    have hq0 : q = 0 := by rw [← hq, ho]; rfl
    clear ho
    subst hq0
    cases hN : inB n 0 1099511627775 with
    | false =>
      have HE : Hid (C = true) := by show _ = _; rw [HC.out]; simp [hR, hm, hn, ho1, hN]
      go_quiet ((first | (go_at_call 95; exact Calls.quiet_of_same (exprRef_at hR _)) | (go_at_call 96; exact Calls.quiet_of_same (exprArgs_at hq _)) | (go_at_call 65; exact Calls.quiet_of_same (within_at hN _))))
      go_wp2_with fail
      go_meet
      exact ⟨by rw [HE.out], drewN_below _ _⟩
    | true =>
      cases hl : ((l.length : Int) != 0) with
      | false =>
        have HE : Hid (C = false) := by show _ = _; rw [HC.out]; simp [hR, hm, hn, ho1, ho2, hN, hl]
        go_quiet ((first | (go_at_call 95; exact Calls.quiet_of_same (exprRef_at hR _)) | (go_at_call 96; exact Calls.quiet_of_same (exprArgs_at hq _)) | (go_at_call 65; exact Calls.quiet_of_same (within_at hN _))))
        go_wp2_with fail
        go_meet
        exact ⟨by rw [HE.out], drewN_below _ _⟩
      | true =>
        have HE : Hid (C = true) := by show _ = _; rw [HC.out]; simp [hR, hm, hn, ho1, ho2, hN, hl]
        go_quiet ((first | (go_at_call 95; exact Calls.quiet_of_same (exprRef_at hR _)) | (go_at_call 96; exact Calls.quiet_of_same (exprArgs_at hq _)) | (go_at_call 65; exact Calls.quiet_of_same (within_at hN _))))
        go_wp2_with fail
        go_meet
        exact ⟨by rw [HE.out], drewN_below _ _⟩
  case rest =>
    obtain ⟨rfl, HBc⟩ := hcut
    have HB0' : Hid (Below w.heap.size w wc) := thenB HB0.out HBc.out
    have HBx' : Hid (Blk wc w.heap.size [.int .i64 op, .int .i64 n, .string mod, .string name, .slice aa l.length cap]) := HBx.out.later HBc.out
    clear HB0 HBx HBc HC
    have HB0 := HB0'
    have HBx := HBx'
    clear HB0' HBx'
    have x4 := HBx.out.cell 4 _ rfl
    have xz := HBx.out.lt
    cases hCb : C with
    | true =>
      subst hCb
      go_wp2_with fail
      go_ret
      exact ⟨ret_bool (HR.out rfl), HB0.out⟩
    | false =>
      subst hCb
      go_wp2_with fail
      go_loopw [7] (fun i wr => ∃ j : Nat, j ≤ l.length ∧ i = .int .i64 j ∧ (l.take j).any (eL 3 k) = false ∧ Below w.heap.size w wr ∧ Blk wr w.heap.size [.int .i64 op, .int .i64 n, .string mod, .string name, .slice aa l.length cap]) (fun i _ => l.length - (intOf i).toNat)
      case atStart => exact ⟨0, Nat.zero_le _, rfl, rfl, HB0.out, HBx.out⟩
      case round =>
        obtain ⟨j, hj, rfl, hall, hb, hB⟩ := hrel
        clear HBx HB0
        clear x4 xz
        have q4 := hB.cell 4 _ rfl
        have qz := hB.lt
        have HB : Hid (Blk wr w.heap.size [.int .i64 op, .int .i64 n, .string mod, .string name, .slice aa l.length cap]) := hB
        have HA : Hid ((l.take j).any (eL 3 k) = false) := hall
        clear hall hB
        by_cases hlt : j < l.length
        · obtain ⟨b, off, a2, cp, rfl, hx⟩ := (HD.out.later hb).ex j hlt
          have hc0 := hx.c0
          have hc1 := hx.c1
          have hc2 := hx.c2
          have hc3 := hx.c3
          have hc4 := hx.c4
          have hlb := hx.lt
          have HX : Hid (ExAt wr A b (off + j * 5) l[j] a2 cp) := hx
          clear hx
          go_wp2_with fail
          refine (HI.out l[j] a2 cp _ HX.out.args HX.out.wm HX.out.wna).mono ?_
          cases hr : eL 3 k l[j] with
          | true =>
            have HF : Hid (l.any (eL 3 k) = true) := any_at l _ j hlt hr
            rintro e w3 ⟨rfl, hb3⟩
            go_wp2_with fail
            go_ret
            exact ⟨ret_bool (HR.out (by rw [HF.out, Bool.or_true])), thenB hb hb3⟩
          | false =>
            have HT : Hid ((l.take (j + 1)).any (eL 3 k) = false) := by
              show _ = _
              rw [any_snoc l _ j hlt, HA.out, hr]; rfl
            rintro e w3 ⟨rfl, hb3⟩
            go_wp2_with fail
            go_roundw
            case rel => exact ⟨j + 1, by omega, by go_num, HT.out, thenB hb hb3, HB.out.later hb3⟩
            case measure => simp [intOf]; omega
        · have HT : Hid (l.any (eL 3 k) = false) := any_end HA.out hlt
          go_wp2_with fail
          go_ret
          exact ⟨ret_bool (HR.out (by rw [HT.out]; rfl)), hb⟩
end Go.Proofs.Ytplkbngnnaogkaa
