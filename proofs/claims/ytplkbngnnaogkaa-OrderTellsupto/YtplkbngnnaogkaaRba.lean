/-
  exprLook: levels 1 and 2.
-/
import Derived.Test.YtplkbngnnaogkaaRb
namespace Go.Proofs.Ytplkbngnnaogkaa
open Go.RowKit Go.Maps

set_option maxRecDepth 100000 in
set_option maxHeartbeats 8000000 in
theorem exprStep1 (A : Nat → Prop) (k : Nat) (op n : Int) (mod name : ByteArray) (l : List Ex) (aa : Option Addr) (cap : Nat) (deep : Int) (w : World) (hbd : l.length ≤ 17592186044416) (hd1 : 1 ≤ deep) (hd6 : deep ≤ 6)
    (HI : Hid (∀ (x : Ex) (aa : Option Addr) (cap : Nat) (w : World), DAt w A aa x.args.length (exsD x.args) → x.mod.size ≤ maxLen → x.name.size ≤ maxLen →
      Calls Try.prog 93 #[.agg #[.int .i64 x.op, .int .i64 x.n, .string x.mod, .string x.name, .slice aa x.args.length cap], .int .i64 1, .int .i64 (deep + 1)] w fun e w' => e = .returned (.bool (eL 1 k x)) ∧ Below w.heap.size w w'))
    (HD : Hid (DAt w A aa l.length (exsD l))) (_HWm : Hid (mod.size ≤ maxLen)) (_HWn : Hid (name.size ≤ maxLen)) :
    Calls Try.prog 93 #[.agg #[.int .i64 op, .int .i64 n, .string mod, .string name, .slice aa l.length cap], .int .i64 1, .int .i64 deep] w fun e w' => e = .returned (.bool (eL 1 (k + 1) (.mk op n mod name l))) ∧ Below w.heap.size w w' := by
  have HR : Hid (∀ {b : Bool}, (eBad 1 (.mk op n mod name l) || l.any (eL 1 k)) = b → b = eL 1 (k + 1) (.mk op n mod name l)) := fun h => by rw [← h]; simp [eL, Ex.args]
  have HBx : Hid (Blk (w.alloc (.cells #[.int .i64 op, .int .i64 n, .string mod, .string name, .slice aa l.length cap] 122)) w.heap.size [.int .i64 op, .int .i64 n, .string mod, .string name, .slice aa l.length cap]) := Blk.new w _ _
  have HB0 : Hid (Below w.heap.size w (w.alloc (.cells #[.int .i64 op, .int .i64 n, .string mod, .string name, .slice aa l.length cap] 122))) := al1 _ _
  cases hK : inB op 1 15 with
  | false =>
    have HQ : Hid (eBad 1 (.mk op n mod name l) = true) := exBad1 hK
    go_enter Try.func93, Try.ntmps93
    go_wp2_with (go_at_call 65; refine (within_at hK _).mono ?_; rintro e w' ⟨rfl, rfl⟩)
    go_ret
    exact ⟨ret_bool (HR.out (by rw [HQ.out]; rfl)), HB0.out⟩
  | true =>
    have HQ : Hid (eBad 1 (.mk op n mod name l) = false) := exBad1 hK
    go_enter Try.func93, Try.ntmps93
    go_wp2_with (go_at_call 65; refine (within_at hK _).mono ?_; rintro e w' ⟨rfl, rfl⟩)
    go_wp2_with fail
    go_loopw [7] (fun i wr => ∃ j : Nat, j ≤ l.length ∧ i = .int .i64 j ∧ (l.take j).any (eL 1 k) = false ∧ Below w.heap.size w wr ∧ Blk wr w.heap.size [.int .i64 op, .int .i64 n, .string mod, .string name, .slice aa l.length cap]) (fun i _ => l.length - (intOf i).toNat)
    case atStart => exact ⟨0, Nat.zero_le _, rfl, rfl, HB0.out, HBx.out⟩
    case round =>
      obtain ⟨j, hj, rfl, hall, hb, hB⟩ := hrel
      clear HBx HB0
      have q4 := hB.cell 4 _ rfl
      have qz := hB.lt
      have HB : Hid (Blk wr w.heap.size [.int .i64 op, .int .i64 n, .string mod, .string name, .slice aa l.length cap]) := hB
      have HA : Hid ((l.take j).any (eL 1 k) = false) := hall
      clear hall hB
      by_cases hlt : j < l.length
      · obtain ⟨b, off, a2, cp, rfl, hx⟩ := (HD.out.later hb).ex j hlt
        have hc0 := hx.c0
        have hc1 := hx.c1
        have hc2 := hx.c2
        have hc3 := hx.c3
        have hc4 := hx.c4
        have hlb := hx.lt
        have HX : Hid (ExAt wr A b (off + j * 5) l[j] a2 cp) := hx
        clear hx
        go_wp2_with fail
        refine (HI.out l[j] a2 cp _ HX.out.args HX.out.wm HX.out.wna).mono ?_
        cases hr : eL 1 k l[j] with
        | true =>
          have HF : Hid (l.any (eL 1 k) = true) := any_at l _ j hlt hr
          rintro e w3 ⟨rfl, hb3⟩
          go_wp2_with fail
          go_ret
          exact ⟨ret_bool (HR.out (by rw [HF.out, Bool.or_true])), thenB hb hb3⟩
        | false =>
          have HT : Hid ((l.take (j + 1)).any (eL 1 k) = false) := by
            show _ = _
            rw [any_snoc l _ j hlt, HA.out, hr]; rfl
          rintro e w3 ⟨rfl, hb3⟩
          go_wp2_with fail
          go_roundw
          case rel => exact ⟨j + 1, by omega, by go_num, HT.out, thenB hb hb3, HB.out.later hb3⟩
          case measure => simp [intOf]; omega
      · have HT : Hid (l.any (eL 1 k) = false) := any_end HA.out hlt
        go_wp2_with fail
        go_ret
        exact ⟨ret_bool (HR.out (by rw [HT.out]; rw [HQ.out]; rfl)), hb⟩
set_option maxRecDepth 100000 in
set_option maxHeartbeats 8000000 in
theorem exprStep2 (A : Nat → Prop) (k : Nat) (op n : Int) (mod name : ByteArray) (l : List Ex) (aa : Option Addr) (cap : Nat) (deep : Int) (w : World) (hbd : l.length ≤ 17592186044416) (hd1 : 1 ≤ deep) (hd6 : deep ≤ 6)
    (HI : Hid (∀ (x : Ex) (aa : Option Addr) (cap : Nat) (w : World), DAt w A aa x.args.length (exsD x.args) → x.mod.size ≤ maxLen → x.name.size ≤ maxLen →
      Calls Try.prog 93 #[.agg #[.int .i64 x.op, .int .i64 x.n, .string x.mod, .string x.name, .slice aa x.args.length cap], .int .i64 2, .int .i64 (deep + 1)] w fun e w' => e = .returned (.bool (eL 2 k x)) ∧ Below w.heap.size w w'))
    (HD : Hid (DAt w A aa l.length (exsD l))) (_HWm : Hid (mod.size ≤ maxLen)) (_HWn : Hid (name.size ≤ maxLen)) :
    Calls Try.prog 93 #[.agg #[.int .i64 op, .int .i64 n, .string mod, .string name, .slice aa l.length cap], .int .i64 2, .int .i64 deep] w fun e w' => e = .returned (.bool (eL 2 (k + 1) (.mk op n mod name l))) ∧ Below w.heap.size w w' := by
  have HR : Hid (∀ {b : Bool}, (eBad 2 (.mk op n mod name l) || l.any (eL 2 k)) = b → b = eL 2 (k + 1) (.mk op n mod name l)) := fun h => by rw [← h]; simp [eL, Ex.args]
  have HBx : Hid (Blk (w.alloc (.cells #[.int .i64 op, .int .i64 n, .string mod, .string name, .slice aa l.length cap] 122)) w.heap.size [.int .i64 op, .int .i64 n, .string mod, .string name, .slice aa l.length cap]) := Blk.new w _ _
  have HB0 : Hid (Below w.heap.size w (w.alloc (.cells #[.int .i64 op, .int .i64 n, .string mod, .string name, .slice aa l.length cap] 122))) := al1 _ _
  by_cases h3 : 3 < l.length
  · have HQ : Hid (eBad 2 (.mk op n mod name l) = true) := decide_eq_true h3
    go_enter Try.func93, Try.ntmps93
    go_wp2_with fail
    go_ret
    exact ⟨ret_bool (HR.out (by rw [HQ.out]; rfl)), HB0.out⟩
  · have HQ : Hid (eBad 2 (.mk op n mod name l) = false) := decide_eq_false h3
    go_enter Try.func93, Try.ntmps93
    go_wp2_with fail
    go_loopw [7] (fun i wr => ∃ j : Nat, j ≤ l.length ∧ i = .int .i64 j ∧ (l.take j).any (eL 2 k) = false ∧ Below w.heap.size w wr ∧ Blk wr w.heap.size [.int .i64 op, .int .i64 n, .string mod, .string name, .slice aa l.length cap]) (fun i _ => l.length - (intOf i).toNat)
    case atStart => exact ⟨0, Nat.zero_le _, rfl, rfl, HB0.out, HBx.out⟩
    case round =>
      obtain ⟨j, hj, rfl, hall, hb, hB⟩ := hrel
      clear HBx HB0
      have q4 := hB.cell 4 _ rfl
      have qz := hB.lt
      have HB : Hid (Blk wr w.heap.size [.int .i64 op, .int .i64 n, .string mod, .string name, .slice aa l.length cap]) := hB
      have HA : Hid ((l.take j).any (eL 2 k) = false) := hall
      clear hall hB
      by_cases hlt : j < l.length
      · obtain ⟨b, off, a2, cp, rfl, hx⟩ := (HD.out.later hb).ex j hlt
        have hc0 := hx.c0
        have hc1 := hx.c1
        have hc2 := hx.c2
        have hc3 := hx.c3
        have hc4 := hx.c4
        have hlb := hx.lt
        have HX : Hid (ExAt wr A b (off + j * 5) l[j] a2 cp) := hx
        clear hx
        go_wp2_with fail
        refine (HI.out l[j] a2 cp _ HX.out.args HX.out.wm HX.out.wna).mono ?_
        cases hr : eL 2 k l[j] with
        | true =>
          have HF : Hid (l.any (eL 2 k) = true) := any_at l _ j hlt hr
          rintro e w3 ⟨rfl, hb3⟩
          go_wp2_with fail
          go_ret
          exact ⟨ret_bool (HR.out (by rw [HF.out, Bool.or_true])), thenB hb hb3⟩
        | false =>
          have HT : Hid ((l.take (j + 1)).any (eL 2 k) = false) := by
            show _ = _
            rw [any_snoc l _ j hlt, HA.out, hr]; rfl
          rintro e w3 ⟨rfl, hb3⟩
          go_wp2_with fail
          go_roundw
          case rel => exact ⟨j + 1, by omega, by go_num, HT.out, thenB hb hb3, HB.out.later hb3⟩
          case measure => simp [intOf]; omega
      · have HT : Hid (l.any (eL 2 k) = false) := any_end HA.out hlt
        go_wp2_with fail
        go_ret
        exact ⟨ret_bool (HR.out (by rw [HT.out]; rw [HQ.out]; rfl)), hb⟩
end Go.Proofs.Ytplkbngnnaogkaa
