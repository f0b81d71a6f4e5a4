/-
  The document's look at modules: the small functions.
-/
import Derived.Deep.RegionHeld
import Derived.Test.YtcekpobmbmnplaaGreatDoorCe
import Derived.Test.YtcekpobmbmnplaaGreatDoorPure
import Derived.Deep.RegionHeld3
import Derived.Deep.QuietTactic
import Derived.BigQuiet
import Derived.Deep.CutRange
import Derived.Deep.DeepCutAuto
namespace Go.Proofs.YtcekpobmbmnplaaGreatDoor
open Go.RowKit Go.Maps
theorem sx {α : Type} : (∀ (l : List α) (i : Nat) (x : α), l.toArray.setIfInBounds i x = (l.set i x).toArray) ∧ (∀ (l : List α) (x y : α), (x :: l).set 0 y = y :: l) ∧ (∀ (l : List α) (x y : α) (n : Nat), (x :: l).set (n + 1) y = x :: l.set n y) :=
  ⟨fun _ _ _ => List.setIfInBounds_toArray .., fun _ _ _ => rfl, fun _ _ _ _ => rfl⟩
theorem tk {P : Program} {ops : Array Oper} {Q : Exit → Act → World → Prop} {md : Region.Mode} {S : World → Prop} {i : Nat} {oi : Oper} {v : Value} {fuel : Nat} {listed : Array Bool} {a : Act} {w : World} (hi : ops[i]? = some oi)
    (hb : (Region.noSelect ops && (Region.free md ops listed i && (Region.ready md ops listed).contains i)) = true)
    (hQ : ∀ c a w, Q (.panic c) (a.put oi.dst v) w → Q (.panic c) a w) (hy : YieldsIf P ops S oi v a) (hS : S w)
    (h : wpAnyH P md ops Q S fuel (listed.setIfInBounds i true) (a.put oi.dst v) w) : wpAnyH P md ops Q S (fuel + 1) listed a w := by
  simp only [Bool.and_eq_true] at hb
  exact wpAnyH_take hi hb.1 hb.2.1 hb.2.2 hQ hy hS h
theorem words_cells (w : World) (t : TypeId) (n : Nat) (hn : n = w.heap.size) : ∀ j (h : j < kept.length), (w.alloc (.cells (kept.map (fun s => Value.string (strOf s))).toArray t)).cell? ⟨n, j, none⟩ = some (.string (strOf kept[j])) := by
  subst hn
  intro j hj
  exact (Blk.new w _ t).cell j _ (by simp [hj])
set_option maxRecDepth 100000 in
set_option maxHeartbeats 400000 in
theorem words_any (w : World) :
    Calls Tryz.prog 80 #[] w fun e w' => ∃ b, e = .returned (.slice (some ⟨b, 0, none⟩) 15 15) ∧ b < w'.heap.size ∧ (∀ j (h : j < kept.length), w'.cell? ⟨b, j, none⟩ = some (.string (strOf kept[j]))) ∧ Below w.heap.size w w' := by
  have HW := hid (words_cells w 9 w.heap.size rfl)
  go_enter Tryz.func80, Tryz.ntmps80
  go_wp2_with fail
  go_ret
  exact ⟨_, rfl, by simp, HW.out, al1 _ _⟩
theorem text_eq (s t : ByteArray) : (s.toList == t.toList) = (t.data.toList == s.data.toList) := by
  rw [Lib.toList_data, Lib.toList_data, Bool.eq_iff_iff]; simp only [beq_iff_eq]; exact ⟨Eq.symm, Eq.symm⟩
set_option maxRecDepth 100000 in
set_option maxHeartbeats 800000 in
theorem isNAME_any (s : ByteArray) (w : World) (hs : s.size ≤ maxLen) :
    Calls Tryz.prog 43 #[.string s] w fun e w' => e = .returned (.bool (nameOk s)) ∧ Below w.heap.size w w' := by
  have hkl : kept.length = 15 := rfl
  go_enter Tryz.func43, Tryz.ntmps43
  go_wp2_with fail
  refine (words_any _).mono ?_
  rintro e w1 ⟨b, rfl, hbl, hc, hb1⟩
  have HC := hid hc
  clear hc
  go_wp2_with fail
  go_loopw [4] (fun i wr => ∃ k : Nat, k ≤ 15 ∧ i = .int .i64 k ∧ (kept.take k).contains s.data.toList = false ∧ wr = w1) (fun i _ => 15 - (intOf i).toNat)
  case atStart => exact ⟨0, by omega, rfl, rfl, rfl⟩
  case round =>
    obtain ⟨k, hk, rfl, hn, hwr⟩ := hrel
    obtain rfl := hwr.symm
    have HN := hid hn
    clear hn
    by_cases hlt : k < 15
    · have hc := HC.out k (by omega)
      have HS : Hid ((kept.take (k + 1)).contains s.data.toList = ((kept.take k).contains s.data.toList || (s.data.toList == kept[k]'(by omega)))) := by
        show _ = _
        rw [List.take_succ_eq_append_getElem (by omega), List.contains_append]; simp only [List.contains_cons, List.contains_nil, Bool.or_false]
      have HE : Hid (((strOf (kept[k]'(by omega))).toList == s.toList) = (s.data.toList == kept[k]'(by omega))) := by
        show _ = _
        rw [text_eq, strOf_list]
      cases he : ((strOf (kept[k]'(by omega))).toList == s.toList) with
      | true =>
        have HT : Hid (nameOk s = false) := by
          have h1 := HE.out
          rw [he] at h1
          have h2 : s.data.toList = kept[k]'(by omega) := by simpa using h1.symm
          show _ = _
          have h3 : keptB s = true := by
            unfold keptB
            rw [h2]; simp
          simp [nameOk, h3]
        generalize strOf (kept[k]'(by omega)) = sk at *
        go_wp2_with fail
        go_ret
        exact ⟨ret_bool HT.out.symm, hb1⟩
      | false =>
        have HT : Hid ((kept.take (k + 1)).contains s.data.toList = false) := by
          show _ = _
          rw [HS.out, HN.out, ← HE.out, he]; rfl
        clear HS HE
        generalize strOf (kept[k]'(by omega)) = sk at *
        go_wp2_with fail
        go_roundw
        case rel => exact ⟨k + 1, by omega, by go_num, HT.out, by first | rfl | trivial⟩
        case measure => simp [intOf]; omega
    · have HT : Hid (nameOk s = Lx.nameB s.data.toList) := by
        have h1 := HN.out
        rw [List.take_of_length_le (by omega)] at h1
        show _ = _
        have h3 : keptB s = false := h1
        simp [nameOk, h3]
      go_wp2_with fail
      refine (IsName_any s _ hs).mono ?_
      rintro e w2 ⟨rfl, rfl⟩
      go_wp2_with fail
      go_ret
      exact ⟨ret_bool HT.out.symm, hb1⟩
def fineB (mod name : ByteArray) : Bool := (mod.toList.isEmpty || nameOk mod) && nameOk name
set_option maxRecDepth 100000 in
set_option maxHeartbeats 800000 in
theorem refFine_any (mod name : ByteArray) (w : World) (h1 : mod.size ≤ maxLen) (h2 : name.size ≤ maxLen) :
    Calls Tryz.prog 113 #[.string mod, .string name] w fun e w' => e = .returned (.bool (fineB mod name)) ∧ Below w.heap.size w w' := by
  cases hm : mod.toList.isEmpty with
  | true =>
    have HR : Hid (fineB mod name = nameOk name) := by show _ = _; simp [fineB, hm]
    go_enter Tryz.func113, Tryz.ntmps113
    go_wp2_with fail
    refine (isNAME_any name _ h2).mono ?_
    rintro e w1 ⟨rfl, hb1⟩
    go_wp2_with fail
    go_ret
    exact ⟨ret_bool HR.out.symm, hb1⟩
  | false =>
    cases hn : nameOk mod with
    | false =>
      have HR : Hid (fineB mod name = false) := by show _ = _; simp [fineB, hm, hn]
      go_enter Tryz.func113, Tryz.ntmps113
      go_wp2_with fail
      refine (isNAME_any mod _ h1).mono ?_
      rw [hn]
      rintro e w1 ⟨rfl, hb1⟩
      go_wp2_with fail
      go_ret
      exact ⟨ret_bool HR.out.symm, hb1⟩
    | true =>
      have HR : Hid (fineB mod name = nameOk name) := by show _ = _; simp [fineB, hn]
      go_enter Tryz.func113, Tryz.ntmps113
      go_wp2_with fail
      refine (isNAME_any mod _ h1).mono ?_
      rw [hn]
      rintro e w1 ⟨rfl, hb1⟩
      go_wp2_with fail
      refine (isNAME_any name _ h2).mono ?_
      rintro e w2 ⟨rfl, hb2⟩
      go_wp2_with fail
      go_ret
      exact ⟨ret_bool HR.out.symm, thenB hb1 hb2⟩
def inB (n lo hi : Int) : Bool := decide (lo ≤ n) && decide (n ≤ hi)
set_option maxRecDepth 100000 in
set_option maxHeartbeats 400000 in
theorem exprRef_any (op : Int) (w : World) : Calls Tryz.prog 128 #[.int .i64 op] w fun e w' => e = .returned (.bool (inB op 3 5)) ∧ w' = w := by
  go_enter Tryz.func128, Tryz.ntmps128
  go_wp2_with (go_at_call 44; refine (within_any op 3 5 _).mono ?_; rintro e w' ⟨rfl, rfl⟩)
  go_ret
  exact ⟨rfl, rfl⟩
set_option maxRecDepth 100000 in
set_option maxHeartbeats 400000 in
theorem stmtRef_any (op : Int) (w : World) : Calls Tryz.prog 112 #[.int .i64 op] w fun e w' => e = .returned (.bool (inB op 1 3)) ∧ w' = w := by
  go_enter Tryz.func112, Tryz.ntmps112
  go_wp2_with (go_at_call 44; refine (within_any op 1 3 _).mono ?_; rintro e w' ⟨rfl, rfl⟩)
  go_ret
  exact ⟨rfl, rfl⟩
def exN (op : Int) : Int := if op = 1 ∨ op = 2 ∨ op = 3 then 0 else if op = 4 ∨ op = 6 then 1 else if op = 5 then -1 else 2
def stN (op : Int) : Int := if op = 2 then 2 else if op = 3 then -1 else 1
set_option maxRecDepth 100000 in
set_option maxHeartbeats 400000 in
theorem stmtArgs_any (op : Int) (w : World) : Calls Tryz.prog 114 #[.int .i64 op] w fun e w' => e = .returned (.int .i64 (stN op)) ∧ w' = w := by
  by_cases h2 : op = 2
  · subst h2
    go_enter Tryz.func114, Tryz.ntmps114
    go_wp2_with fail
    go_ret
    exact ⟨rfl, rfl⟩
  · have b2 : (op == 2) = false := beq_eq_false_iff_ne.2 h2
    by_cases h3 : op = 3
    · subst h3
      go_enter Tryz.func114, Tryz.ntmps114
      go_wp2_with fail
      go_ret
      exact ⟨rfl, rfl⟩
    · have b3 : (op == 3) = false := beq_eq_false_iff_ne.2 h3
      have HR : Hid (stN op = 1) := by show _ = _; simp [stN, h2, h3]
      go_enter Tryz.func114, Tryz.ntmps114
      go_wp2_with fail
      go_ret
      exact ⟨ret_int HR.out.symm, rfl⟩
set_option maxRecDepth 100000 in
set_option maxHeartbeats 800000 in
theorem exprArgs_any (op : Int) (w : World) : Calls Tryz.prog 129 #[.int .i64 op] w fun e w' => e = .returned (.int .i64 (exN op)) ∧ w' = w := by
  by_cases h : op = 1 ∨ op = 2 ∨ op = 3 ∨ op = 4 ∨ op = 5 ∨ op = 6
  · rcases h with rfl | rfl | rfl | rfl | rfl | rfl
    all_goals go_enter Tryz.func129, Tryz.ntmps129
    all_goals go_wp2_with fail
    all_goals go_ret
    all_goals exact ⟨rfl, rfl⟩
  · have b1 : (op == 1) = false := beq_eq_false_iff_ne.2 (by omega)
    have b2 : (op == 2) = false := beq_eq_false_iff_ne.2 (by omega)
    have b3 : (op == 3) = false := beq_eq_false_iff_ne.2 (by omega)
    have b4 : (op == 4) = false := beq_eq_false_iff_ne.2 (by omega)
    have b5 : (op == 5) = false := beq_eq_false_iff_ne.2 (by omega)
    have b6 : (op == 6) = false := beq_eq_false_iff_ne.2 (by omega)
    have HR : Hid (exN op = 2) := by
      show _ = _
      unfold exN
      rw [if_neg (by omega), if_neg (by omega), if_neg (by omega)]
    clear h
    go_enter Tryz.func129, Tryz.ntmps129
    go_wp2_with fail
    go_ret
    exact ⟨ret_int HR.out.symm, rfl⟩
end Go.Proofs.YtcekpobmbmnplaaGreatDoor

namespace Go.Proofs.YtcekpobmbmnplaaGreatDoor
open Go.RowKit Go.Maps
def c3 (x : Ex) : Bool := (inB x.op 3 5 && !fineB x.mod x.name) || (!inB x.op 3 5 && (!x.mod.toList.isEmpty || !x.name.toList.isEmpty)) || (x.op == 1 && !inB x.n 0 1099511627775) || (x.op != 1 && x.n != 0) || (decide (0 ≤ exN x.op) && ((x.args.length : Int) != exN x.op))
def eBad (lv : Int) (x : Ex) : Bool := if lv = 1 then !inB x.op 1 15 else if lv = 2 then decide (3 < x.args.length) else c3 x
def eL (lv : Int) : Nat → Ex → Bool
  | 0, _ => lv == 2
  | k + 1, x => eBad lv x || x.args.any (eL lv k)
theorem exprRef_at {op : Int} {b : Bool} (h : inB op 3 5 = b) (w : World) : Calls Tryz.prog 128 #[.int .i64 op] w fun e w' => e = .returned (.bool b) ∧ w' = w := by
  subst h; exact exprRef_any op w
theorem exprArgs_at {op q : Int} (h : exN op = q) (w : World) : Calls Tryz.prog 129 #[.int .i64 op] w fun e w' => e = .returned (.int .i64 q) ∧ w' = w := by
  subst h; exact exprArgs_any op w
theorem within_at {n lo hi : Int} {b : Bool} (h : inB n lo hi = b) (w : World) : Calls Tryz.prog 44 #[.int .i64 n, .int .i64 lo, .int .i64 hi] w fun e w' => e = .returned (.bool b) ∧ w' = w := by
  subst h; exact within_any n lo hi w
theorem refFine_at {mod name : ByteArray} {b : Bool} (h : fineB mod name = b) (w : World) (h1 : mod.size ≤ maxLen) (h2 : name.size ≤ maxLen) :
    Calls Tryz.prog 113 #[.string mod, .string name] w fun e w' => e = .returned (.bool b) ∧ Below w.heap.size w w' := by
  subst h; exact refFine_any mod name w h1 h2
theorem drewN_below (w : World) (n : Nat) : Below w.heap.size w (w.drewN n) := by
  induction n with
  | zero => exact Below.refl _ _
  | succ n ih => exact ih.drew
theorem endB {w0 w' : World} {P : Prop} (h : Hid (Below w0.heap.size w0 w' ∧ P)) : Hid (Below w0.heap.size w0 w') := h.out.1
theorem bx5 {W0 W W' : World} {b : Nat} {u0 u1 u2 u3 u4 : Value} (hB : Hid (Blk W0 b [u0, u1, u2, u3, u4])) (h0 : Hid (Below W0.heap.size W0 W)) (hb : Below W.heap.size W W') :
    Hid (Below W0.heap.size W0 W' ∧ W'.cell? ⟨b, 0, none⟩ = some u0 ∧ W'.cell? ⟨b, 1, none⟩ = some u1 ∧ W'.cell? ⟨b, 2, none⟩ = some u2 ∧ W'.cell? ⟨b, 3, none⟩ = some u3 ∧ W'.cell? ⟨b, 4, none⟩ = some u4) := by
  have h := thenB h0.out hb
  have c := (hB.out.later h).c5
  exact ⟨h, c.1, c.2.1, c.2.2.1, c.2.2.2.1, c.2.2.2.2.1⟩
theorem exBad1 {op n : Int} {mod name : ByteArray} {l : List Ex} {b : Bool} (h : inB op 1 15 = b) : eBad 1 (.mk op n mod name l) = !b := by subst h; rfl
end Go.Proofs.YtcekpobmbmnplaaGreatDoor

namespace Go.Proofs.YtcekpobmbmnplaaGreatDoor
open Go.RowKit Go.Maps
set_option maxRecDepth 100000 in
set_option maxHeartbeats 8000000 in
theorem exprStep1 (A : Nat → Prop) (k : Nat) (op n : Int) (mod name : ByteArray) (l : List Ex) (aa : Option Addr) (cap : Nat) (deep : Int) (w : World) (hbd : l.length ≤ 17592186044416) (hd1 : 1 ≤ deep) (hd6 : deep ≤ 6)
    (HI : Hid (∀ (x : Ex) (aa : Option Addr) (cap : Nat) (w : World), DAt w A aa x.args.length (exsD x.args) → x.mod.size ≤ maxLen → x.name.size ≤ maxLen →
      Calls Tryz.prog 115 #[.agg #[.int .i64 x.op, .int .i64 x.n, .string x.mod, .string x.name, .slice aa x.args.length cap], .int .i64 1, .int .i64 (deep + 1)] w fun e w' => e = .returned (.bool (eL 1 k x)) ∧ Below w.heap.size w w'))
    (HD : Hid (DAt w A aa l.length (exsD l))) (_HWm : Hid (mod.size ≤ maxLen)) (_HWn : Hid (name.size ≤ maxLen)) :
    Calls Tryz.prog 115 #[.agg #[.int .i64 op, .int .i64 n, .string mod, .string name, .slice aa l.length cap], .int .i64 1, .int .i64 deep] w fun e w' => e = .returned (.bool (eL 1 (k + 1) (.mk op n mod name l))) ∧ Below w.heap.size w w' := by
  have HR : Hid (∀ {b : Bool}, (eBad 1 (.mk op n mod name l) || l.any (eL 1 k)) = b → b = eL 1 (k + 1) (.mk op n mod name l)) := fun h => by rw [← h]; simp [eL, Ex.args]
  have HBx : Hid (Blk (w.alloc (.cells #[.int .i64 op, .int .i64 n, .string mod, .string name, .slice aa l.length cap] 76)) w.heap.size [.int .i64 op, .int .i64 n, .string mod, .string name, .slice aa l.length cap]) := Blk.new w _ _
  have HB0 : Hid (Below w.heap.size w (w.alloc (.cells #[.int .i64 op, .int .i64 n, .string mod, .string name, .slice aa l.length cap] 76))) := al1 _ _
  cases hK : inB op 1 15 with
  | false =>
    have HQ : Hid (eBad 1 (.mk op n mod name l) = true) := exBad1 hK
    go_enter Tryz.func115, Tryz.ntmps115
    go_wp2_with (go_at_call 44; refine (within_at hK _).mono ?_; rintro e w' ⟨rfl, rfl⟩)
    go_ret
    exact ⟨ret_bool (HR.out (by rw [HQ.out]; rfl)), HB0.out⟩
  | true =>
    have HQ : Hid (eBad 1 (.mk op n mod name l) = false) := exBad1 hK
    go_enter Tryz.func115, Tryz.ntmps115
    go_wp2_with (go_at_call 44; refine (within_at hK _).mono ?_; rintro e w' ⟨rfl, rfl⟩)
    go_wp2_with fail
    go_loopw [7] (fun i wr => ∃ j : Nat, j ≤ l.length ∧ i = .int .i64 j ∧ (l.take j).any (eL 1 k) = false ∧ Below w.heap.size w wr ∧ Blk wr w.heap.size [.int .i64 op, .int .i64 n, .string mod, .string name, .slice aa l.length cap]) (fun i _ => l.length - (intOf i).toNat)
    case atStart => exact ⟨0, Nat.zero_le _, rfl, rfl, HB0.out, HBx.out⟩
    case round =>
      obtain ⟨j, hj, rfl, hall, hb, hB⟩ := hrel
      clear HBx HB0
      have q4 := hB.cell 4 _ rfl
      have qz := hB.lt
      have HB : Hid (Blk wr w.heap.size [.int .i64 op, .int .i64 n, .string mod, .string name, .slice aa l.length cap]) := hB
      have HA : Hid ((l.take j).any (eL 1 k) = false) := hall
      clear hall hB
      by_cases hlt : j < l.length
      · obtain ⟨b, off, a2, cp, rfl, hx⟩ := (HD.out.later hb).ex j hlt
        have hc0 := hx.c0
        have hc1 := hx.c1
        have hc2 := hx.c2
        have hc3 := hx.c3
        have hc4 := hx.c4
        have hlb := hx.lt
        have HX : Hid (ExAt wr A b (off + j * 5) l[j] a2 cp) := hx
        clear hx
        go_wp2_with fail
        refine (HI.out l[j] a2 cp _ HX.out.args HX.out.wm HX.out.wna).mono ?_
        cases hr : eL 1 k l[j] with
        | true =>
          have HF : Hid (l.any (eL 1 k) = true) := any_at l _ j hlt hr
          rintro e w3 ⟨rfl, hb3⟩
          go_wp2_with fail
          go_ret
          exact ⟨ret_bool (HR.out (by rw [HF.out, Bool.or_true])), thenB hb hb3⟩
        | false =>
          have HT : Hid ((l.take (j + 1)).any (eL 1 k) = false) := by
            show _ = _
            rw [any_snoc l _ j hlt, HA.out, hr]; rfl
          rintro e w3 ⟨rfl, hb3⟩
          go_wp2_with fail
          go_roundw
          case rel => exact ⟨j + 1, by omega, by go_num, HT.out, thenB hb hb3, HB.out.later hb3⟩
          case measure => simp [intOf]; omega
      · have HT : Hid (l.any (eL 1 k) = false) := any_end HA.out hlt
        go_wp2_with fail
        go_ret
        exact ⟨ret_bool (HR.out (by rw [HT.out]; rw [HQ.out]; rfl)), hb⟩
set_option maxRecDepth 100000 in
set_option maxHeartbeats 8000000 in
theorem exprStep2 (A : Nat → Prop) (k : Nat) (op n : Int) (mod name : ByteArray) (l : List Ex) (aa : Option Addr) (cap : Nat) (deep : Int) (w : World) (hbd : l.length ≤ 17592186044416) (hd1 : 1 ≤ deep) (hd6 : deep ≤ 6)
    (HI : Hid (∀ (x : Ex) (aa : Option Addr) (cap : Nat) (w : World), DAt w A aa x.args.length (exsD x.args) → x.mod.size ≤ maxLen → x.name.size ≤ maxLen →
      Calls Tryz.prog 115 #[.agg #[.int .i64 x.op, .int .i64 x.n, .string x.mod, .string x.name, .slice aa x.args.length cap], .int .i64 2, .int .i64 (deep + 1)] w fun e w' => e = .returned (.bool (eL 2 k x)) ∧ Below w.heap.size w w'))
    (HD : Hid (DAt w A aa l.length (exsD l))) (_HWm : Hid (mod.size ≤ maxLen)) (_HWn : Hid (name.size ≤ maxLen)) :
    Calls Tryz.prog 115 #[.agg #[.int .i64 op, .int .i64 n, .string mod, .string name, .slice aa l.length cap], .int .i64 2, .int .i64 deep] w fun e w' => e = .returned (.bool (eL 2 (k + 1) (.mk op n mod name l))) ∧ Below w.heap.size w w' := by
  have HR : Hid (∀ {b : Bool}, (eBad 2 (.mk op n mod name l) || l.any (eL 2 k)) = b → b = eL 2 (k + 1) (.mk op n mod name l)) := fun h => by rw [← h]; simp [eL, Ex.args]
  have HBx : Hid (Blk (w.alloc (.cells #[.int .i64 op, .int .i64 n, .string mod, .string name, .slice aa l.length cap] 76)) w.heap.size [.int .i64 op, .int .i64 n, .string mod, .string name, .slice aa l.length cap]) := Blk.new w _ _
  have HB0 : Hid (Below w.heap.size w (w.alloc (.cells #[.int .i64 op, .int .i64 n, .string mod, .string name, .slice aa l.length cap] 76))) := al1 _ _
  by_cases h3 : 3 < l.length
  · have HQ : Hid (eBad 2 (.mk op n mod name l) = true) := decide_eq_true h3
    go_enter Tryz.func115, Tryz.ntmps115
    go_wp2_with fail
    go_ret
    exact ⟨ret_bool (HR.out (by rw [HQ.out]; rfl)), HB0.out⟩
  · have HQ : Hid (eBad 2 (.mk op n mod name l) = false) := decide_eq_false h3
    go_enter Tryz.func115, Tryz.ntmps115
    go_wp2_with fail
    go_loopw [7] (fun i wr => ∃ j : Nat, j ≤ l.length ∧ i = .int .i64 j ∧ (l.take j).any (eL 2 k) = false ∧ Below w.heap.size w wr ∧ Blk wr w.heap.size [.int .i64 op, .int .i64 n, .string mod, .string name, .slice aa l.length cap]) (fun i _ => l.length - (intOf i).toNat)
    case atStart => exact ⟨0, Nat.zero_le _, rfl, rfl, HB0.out, HBx.out⟩
    case round =>
      obtain ⟨j, hj, rfl, hall, hb, hB⟩ := hrel
      clear HBx HB0
      have q4 := hB.cell 4 _ rfl
      have qz := hB.lt
      have HB : Hid (Blk wr w.heap.size [.int .i64 op, .int .i64 n, .string mod, .string name, .slice aa l.length cap]) := hB
      have HA : Hid ((l.take j).any (eL 2 k) = false) := hall
      clear hall hB
      by_cases hlt : j < l.length
      · obtain ⟨b, off, a2, cp, rfl, hx⟩ := (HD.out.later hb).ex j hlt
        have hc0 := hx.c0
        have hc1 := hx.c1
        have hc2 := hx.c2
        have hc3 := hx.c3
        have hc4 := hx.c4
        have hlb := hx.lt
        have HX : Hid (ExAt wr A b (off + j * 5) l[j] a2 cp) := hx
        clear hx
        go_wp2_with fail
        refine (HI.out l[j] a2 cp _ HX.out.args HX.out.wm HX.out.wna).mono ?_
        cases hr : eL 2 k l[j] with
        | true =>
          have HF : Hid (l.any (eL 2 k) = true) := any_at l _ j hlt hr
          rintro e w3 ⟨rfl, hb3⟩
          go_wp2_with fail
          go_ret
          exact ⟨ret_bool (HR.out (by rw [HF.out, Bool.or_true])), thenB hb hb3⟩
        | false =>
          have HT : Hid ((l.take (j + 1)).any (eL 2 k) = false) := by
            show _ = _
            rw [any_snoc l _ j hlt, HA.out, hr]; rfl
          rintro e w3 ⟨rfl, hb3⟩
          go_wp2_with fail
          go_roundw
          case rel => exact ⟨j + 1, by omega, by go_num, HT.out, thenB hb hb3, HB.out.later hb3⟩
          case measure => simp [intOf]; omega
      · have HT : Hid (l.any (eL 2 k) = false) := any_end HA.out hlt
        go_wp2_with fail
        go_ret
        exact ⟨ret_bool (HR.out (by rw [HT.out]; rw [HQ.out]; rfl)), hb⟩
end Go.Proofs.YtcekpobmbmnplaaGreatDoor

namespace Go.Proofs.YtcekpobmbmnplaaGreatDoor
open Go.RowKit Go.Maps
set_option maxRecDepth 100000 in
set_option maxHeartbeats 8000000 in
theorem exprStep3a (A : Nat → Prop) (k : Nat) (op n : Int) (mod name : ByteArray) (l : List Ex) (aa : Option Addr) (cap : Nat) (deep : Int) (w : World) (hbd : l.length ≤ 17592186044416) (hd1 : 1 ≤ deep) (hd6 : deep ≤ 6)
    (HI : Hid (∀ (x : Ex) (aa : Option Addr) (cap : Nat) (w : World), DAt w A aa x.args.length (exsD x.args) → x.mod.size ≤ maxLen → x.name.size ≤ maxLen →
      Calls Tryz.prog 115 #[.agg #[.int .i64 x.op, .int .i64 x.n, .string x.mod, .string x.name, .slice aa x.args.length cap], .int .i64 3, .int .i64 (deep + 1)] w fun e w' => e = .returned (.bool (eL 3 k x)) ∧ Below w.heap.size w w'))
    (HD : Hid (DAt w A aa l.length (exsD l))) (_HWm : Hid (mod.size ≤ maxLen)) (_HWn : Hid (name.size ≤ maxLen))
    (hR : inB op 3 5 = false) (hmn : mod.toList.isEmpty = false ∨ (mod.toList.isEmpty = true ∧ name.toList.isEmpty = false)) :
    Calls Tryz.prog 115 #[.agg #[.int .i64 op, .int .i64 n, .string mod, .string name, .slice aa l.length cap], .int .i64 3, .int .i64 deep] w fun e w' => e = .returned (.bool (eL 3 (k + 1) (.mk op n mod name l))) ∧ Below w.heap.size w w' := by
  have HR : Hid (∀ {b : Bool}, (eBad 3 (.mk op n mod name l) || l.any (eL 3 k)) = b → b = eL 3 (k + 1) (.mk op n mod name l)) := fun h => by rw [← h]; simp [eL, Ex.args]
  have HBx : Hid (Blk (w.alloc (.cells #[.int .i64 op, .int .i64 n, .string mod, .string name, .slice aa l.length cap] 76)) w.heap.size [.int .i64 op, .int .i64 n, .string mod, .string name, .slice aa l.length cap]) := Blk.new w _ _
  have HB0 : Hid (Below w.heap.size w (w.alloc (.cells #[.int .i64 op, .int .i64 n, .string mod, .string name, .slice aa l.length cap] 76))) := al1 _ _
  have HC : Hid (eBad 3 (.mk op n mod name l) = ((inB op 3 5 && !fineB mod name) || (!inB op 3 5 && (!mod.toList.isEmpty || !name.toList.isEmpty)) || (op == 1 && !inB n 0 1099511627775) || (op != 1 && n != 0) || (decide (0 ≤ exN op) && ((l.length : Int) != exN op)))) := rfl
  generalize hCC : eBad 3 (.mk op n mod name l) = C at HC HR
  clear hCC
  go_enter Tryz.func115, Tryz.ntmps115
  go_upto_region 11 with fail
  generalize hW0 : w.alloc (.cells #[.int .i64 op, .int .i64 n, .string mod, .string name, .slice aa l.length cap] 76) = W0 at *
  clear hW0
  go_cut [89] (fun v wc => v = .bool C ∧ Hid (Below W0.heap.size W0 wc))
  case first =>
    clear HD HI HR HB0
    obtain ⟨x0, x1, x2, x3, x4, xz⟩ := HBx.out.c5
    have HBz : Hid (Below W0.heap.size W0 W0.drew) := (Below.refl _ _).drew
    generalize hq : exN op = q at *
    rcases hmn with hm | ⟨hm, hn⟩
    · skip
      have HE : Hid (C = true) := by show _ = _; rw [HC.out]; simp [hR, hm]
      go_quiet ((first | (go_at_call 128; exact Calls.quiet_of_same (exprRef_at hR _)) | (go_at_call 129; exact Calls.quiet_of_same (exprArgs_at hq _)) | (go_at_call 44; exact Calls.quiet_of_same (within_at rfl _))))
      go_wp2_with fail
      go_meet
      exact ⟨by rw [HE.out], drewN_below _ _⟩
    · skip
      have HE : Hid (C = true) := by show _ = _; rw [HC.out]; simp [hR, hm, hn]
      go_quiet ((first | (go_at_call 128; exact Calls.quiet_of_same (exprRef_at hR _)) | (go_at_call 129; exact Calls.quiet_of_same (exprArgs_at hq _)) | (go_at_call 44; exact Calls.quiet_of_same (within_at rfl _))))
      go_wp2_with fail
      go_meet
      exact ⟨by rw [HE.out], drewN_below _ _⟩
  case rest =>
    obtain ⟨rfl, HBc⟩ := hcut
    have HB0' : Hid (Below w.heap.size w wc) := thenB HB0.out HBc.out
    have HBx' : Hid (Blk wc w.heap.size [.int .i64 op, .int .i64 n, .string mod, .string name, .slice aa l.length cap]) := HBx.out.later HBc.out
    clear HB0 HBx HBc HC
    have HB0 := HB0'
    have HBx := HBx'
    clear HB0' HBx'
    have x4 := HBx.out.cell 4 _ rfl
    have xz := HBx.out.lt
    cases hCb : C with
    | true =>
      subst hCb
      go_wp2_with fail
      go_ret
      exact ⟨ret_bool (HR.out rfl), HB0.out⟩
    | false =>
      subst hCb
      go_wp2_with fail
      go_loopw [7] (fun i wr => ∃ j : Nat, j ≤ l.length ∧ i = .int .i64 j ∧ (l.take j).any (eL 3 k) = false ∧ Below w.heap.size w wr ∧ Blk wr w.heap.size [.int .i64 op, .int .i64 n, .string mod, .string name, .slice aa l.length cap]) (fun i _ => l.length - (intOf i).toNat)
      case atStart => exact ⟨0, Nat.zero_le _, rfl, rfl, HB0.out, HBx.out⟩
      case round =>
        obtain ⟨j, hj, rfl, hall, hb, hB⟩ := hrel
        clear HBx HB0
        clear x4 xz
        have q4 := hB.cell 4 _ rfl
        have qz := hB.lt
        have HB : Hid (Blk wr w.heap.size [.int .i64 op, .int .i64 n, .string mod, .string name, .slice aa l.length cap]) := hB
        have HA : Hid ((l.take j).any (eL 3 k) = false) := hall
        clear hall hB
        by_cases hlt : j < l.length
        · obtain ⟨b, off, a2, cp, rfl, hx⟩ := (HD.out.later hb).ex j hlt
          have hc0 := hx.c0
          have hc1 := hx.c1
          have hc2 := hx.c2
          have hc3 := hx.c3
          have hc4 := hx.c4
          have hlb := hx.lt
          have HX : Hid (ExAt wr A b (off + j * 5) l[j] a2 cp) := hx
          clear hx
          go_wp2_with fail
          refine (HI.out l[j] a2 cp _ HX.out.args HX.out.wm HX.out.wna).mono ?_
          cases hr : eL 3 k l[j] with
          | true =>
            have HF : Hid (l.any (eL 3 k) = true) := any_at l _ j hlt hr
            rintro e w3 ⟨rfl, hb3⟩
            go_wp2_with fail
            go_ret
            exact ⟨ret_bool (HR.out (by rw [HF.out, Bool.or_true])), thenB hb hb3⟩
          | false =>
            have HT : Hid ((l.take (j + 1)).any (eL 3 k) = false) := by
              show _ = _
              rw [any_snoc l _ j hlt, HA.out, hr]; rfl
            rintro e w3 ⟨rfl, hb3⟩
            go_wp2_with fail
            go_roundw
            case rel => exact ⟨j + 1, by omega, by go_num, HT.out, thenB hb hb3, HB.out.later hb3⟩
            case measure => simp [intOf]; omega
        · have HT : Hid (l.any (eL 3 k) = false) := any_end HA.out hlt
          go_wp2_with fail
          go_ret
          exact ⟨ret_bool (HR.out (by rw [HT.out]; rfl)), hb⟩
end Go.Proofs.YtcekpobmbmnplaaGreatDoor

namespace Go.Proofs.YtcekpobmbmnplaaGreatDoor
open Go.RowKit Go.Maps
set_option maxRecDepth 100000 in
set_option maxHeartbeats 8000000 in
theorem exprStep3b (A : Nat → Prop) (k : Nat) (op n : Int) (mod name : ByteArray) (l : List Ex) (aa : Option Addr) (cap : Nat) (deep : Int) (w : World) (hbd : l.length ≤ 17592186044416) (hd1 : 1 ≤ deep) (hd6 : deep ≤ 6)
    (HI : Hid (∀ (x : Ex) (aa : Option Addr) (cap : Nat) (w : World), DAt w A aa x.args.length (exsD x.args) → x.mod.size ≤ maxLen → x.name.size ≤ maxLen →
      Calls Tryz.prog 115 #[.agg #[.int .i64 x.op, .int .i64 x.n, .string x.mod, .string x.name, .slice aa x.args.length cap], .int .i64 3, .int .i64 (deep + 1)] w fun e w' => e = .returned (.bool (eL 3 k x)) ∧ Below w.heap.size w w'))
    (HD : Hid (DAt w A aa l.length (exsD l))) (_HWm : Hid (mod.size ≤ maxLen)) (_HWn : Hid (name.size ≤ maxLen))
    (hR : inB op 3 5 = false) (hm : mod.toList.isEmpty = true) (hn : name.toList.isEmpty = true) (ho : Hid (op = 1)) :
    Calls Tryz.prog 115 #[.agg #[.int .i64 op, .int .i64 n, .string mod, .string name, .slice aa l.length cap], .int .i64 3, .int .i64 deep] w fun e w' => e = .returned (.bool (eL 3 (k + 1) (.mk op n mod name l))) ∧ Below w.heap.size w w' := by
  have HR : Hid (∀ {b : Bool}, (eBad 3 (.mk op n mod name l) || l.any (eL 3 k)) = b → b = eL 3 (k + 1) (.mk op n mod name l)) := fun h => by rw [← h]; simp [eL, Ex.args]
  have HBx : Hid (Blk (w.alloc (.cells #[.int .i64 op, .int .i64 n, .string mod, .string name, .slice aa l.length cap] 76)) w.heap.size [.int .i64 op, .int .i64 n, .string mod, .string name, .slice aa l.length cap]) := Blk.new w _ _
  have HB0 : Hid (Below w.heap.size w (w.alloc (.cells #[.int .i64 op, .int .i64 n, .string mod, .string name, .slice aa l.length cap] 76))) := al1 _ _
  have HC : Hid (eBad 3 (.mk op n mod name l) = ((inB op 3 5 && !fineB mod name) || (!inB op 3 5 && (!mod.toList.isEmpty || !name.toList.isEmpty)) || (op == 1 && !inB n 0 1099511627775) || (op != 1 && n != 0) || (decide (0 ≤ exN op) && ((l.length : Int) != exN op)))) := rfl
  generalize hCC : eBad 3 (.mk op n mod name l) = C at HC HR
  clear hCC
  go_enter Tryz.func115, Tryz.ntmps115
  go_upto_region 11 with fail
  generalize hW0 : w.alloc (.cells #[.int .i64 op, .int .i64 n, .string mod, .string name, .slice aa l.length cap] 76) = W0 at *
  clear hW0
  go_cut [89] (fun v wc => v = .bool C ∧ Hid (Below W0.heap.size W0 wc))
  case first =>
    clear HD HI HR HB0
    obtain ⟨x0, x1, x2, x3, x4, xz⟩ := HBx.out.c5
    have HBz : Hid (Below W0.heap.size W0 W0.drew) := (Below.refl _ _).drew
    generalize hq : exN op = q at *
    have ho := ho.out
    have ho1 : (op == 1) = true := beq_iff_eq.2 ho
    have ho2 : (op != 1) = false := by simp [ho]
    have hq0 : q = 0 := by rw [← hq, ho]; rfl
    clear ho
    subst hq0
    cases hN : inB n 0 1099511627775 with
    | false =>
      have HE : Hid (C = true) := by show _ = _; rw [HC.out]; simp [hR, hm, hn, ho1, hN]
      go_quiet ((first | (go_at_call 128; exact Calls.quiet_of_same (exprRef_at hR _)) | (go_at_call 129; exact Calls.quiet_of_same (exprArgs_at hq _)) | (go_at_call 44; exact Calls.quiet_of_same (within_at hN _))))
      go_wp2_with fail
      go_meet
      exact ⟨by rw [HE.out], drewN_below _ _⟩
    | true =>
      cases hl : ((l.length : Int) != 0) with
      | false =>
        have HE : Hid (C = false) := by show _ = _; rw [HC.out]; simp [hR, hm, hn, ho1, ho2, hN, hl]
        go_quiet ((first | (go_at_call 128; exact Calls.quiet_of_same (exprRef_at hR _)) | (go_at_call 129; exact Calls.quiet_of_same (exprArgs_at hq _)) | (go_at_call 44; exact Calls.quiet_of_same (within_at hN _))))
        go_wp2_with fail
        go_meet
        exact ⟨by rw [HE.out], drewN_below _ _⟩
      | true =>
        have HE : Hid (C = true) := by show _ = _; rw [HC.out]; simp [hR, hm, hn, ho1, ho2, hN, hl]
        go_quiet ((first | (go_at_call 128; exact Calls.quiet_of_same (exprRef_at hR _)) | (go_at_call 129; exact Calls.quiet_of_same (exprArgs_at hq _)) | (go_at_call 44; exact Calls.quiet_of_same (within_at hN _))))
        go_wp2_with fail
        go_meet
        exact ⟨by rw [HE.out], drewN_below _ _⟩
  case rest =>
    obtain ⟨rfl, HBc⟩ := hcut
    have HB0' : Hid (Below w.heap.size w wc) := thenB HB0.out HBc.out
    have HBx' : Hid (Blk wc w.heap.size [.int .i64 op, .int .i64 n, .string mod, .string name, .slice aa l.length cap]) := HBx.out.later HBc.out
    clear HB0 HBx HBc HC
    have HB0 := HB0'
    have HBx := HBx'
    clear HB0' HBx'
    have x4 := HBx.out.cell 4 _ rfl
    have xz := HBx.out.lt
    cases hCb : C with
    | true =>
      subst hCb
      go_wp2_with fail
      go_ret
      exact ⟨ret_bool (HR.out rfl), HB0.out⟩
    | false =>
      subst hCb
      go_wp2_with fail
      go_loopw [7] (fun i wr => ∃ j : Nat, j ≤ l.length ∧ i = .int .i64 j ∧ (l.take j).any (eL 3 k) = false ∧ Below w.heap.size w wr ∧ Blk wr w.heap.size [.int .i64 op, .int .i64 n, .string mod, .string name, .slice aa l.length cap]) (fun i _ => l.length - (intOf i).toNat)
      case atStart => exact ⟨0, Nat.zero_le _, rfl, rfl, HB0.out, HBx.out⟩
      case round =>
        obtain ⟨j, hj, rfl, hall, hb, hB⟩ := hrel
        clear HBx HB0
        clear x4 xz
        have q4 := hB.cell 4 _ rfl
        have qz := hB.lt
        have HB : Hid (Blk wr w.heap.size [.int .i64 op, .int .i64 n, .string mod, .string name, .slice aa l.length cap]) := hB
        have HA : Hid ((l.take j).any (eL 3 k) = false) := hall
        clear hall hB
        by_cases hlt : j < l.length
        · obtain ⟨b, off, a2, cp, rfl, hx⟩ := (HD.out.later hb).ex j hlt
          have hc0 := hx.c0
          have hc1 := hx.c1
          have hc2 := hx.c2
          have hc3 := hx.c3
          have hc4 := hx.c4
          have hlb := hx.lt
          have HX : Hid (ExAt wr A b (off + j * 5) l[j] a2 cp) := hx
          clear hx
          go_wp2_with fail
          refine (HI.out l[j] a2 cp _ HX.out.args HX.out.wm HX.out.wna).mono ?_
          cases hr : eL 3 k l[j] with
          | true =>
            have HF : Hid (l.any (eL 3 k) = true) := any_at l _ j hlt hr
            rintro e w3 ⟨rfl, hb3⟩
            go_wp2_with fail
            go_ret
            exact ⟨ret_bool (HR.out (by rw [HF.out, Bool.or_true])), thenB hb hb3⟩
          | false =>
            have HT : Hid ((l.take (j + 1)).any (eL 3 k) = false) := by
              show _ = _
              rw [any_snoc l _ j hlt, HA.out, hr]; rfl
            rintro e w3 ⟨rfl, hb3⟩
            go_wp2_with fail
            go_roundw
            case rel => exact ⟨j + 1, by omega, by go_num, HT.out, thenB hb hb3, HB.out.later hb3⟩
            case measure => simp [intOf]; omega
        · have HT : Hid (l.any (eL 3 k) = false) := any_end HA.out hlt
          go_wp2_with fail
          go_ret
          exact ⟨ret_bool (HR.out (by rw [HT.out]; rfl)), hb⟩
end Go.Proofs.YtcekpobmbmnplaaGreatDoor

namespace Go.Proofs.YtcekpobmbmnplaaGreatDoor
open Go.RowKit Go.Maps
set_option maxRecDepth 100000 in
set_option maxHeartbeats 8000000 in
theorem exprStep3c (A : Nat → Prop) (k : Nat) (op n : Int) (mod name : ByteArray) (l : List Ex) (aa : Option Addr) (cap : Nat) (deep : Int) (w : World) (hbd : l.length ≤ 17592186044416) (hd1 : 1 ≤ deep) (hd6 : deep ≤ 6)
    (HI : Hid (∀ (x : Ex) (aa : Option Addr) (cap : Nat) (w : World), DAt w A aa x.args.length (exsD x.args) → x.mod.size ≤ maxLen → x.name.size ≤ maxLen →
      Calls Tryz.prog 115 #[.agg #[.int .i64 x.op, .int .i64 x.n, .string x.mod, .string x.name, .slice aa x.args.length cap], .int .i64 3, .int .i64 (deep + 1)] w fun e w' => e = .returned (.bool (eL 3 k x)) ∧ Below w.heap.size w w'))
    (HD : Hid (DAt w A aa l.length (exsD l))) (_HWm : Hid (mod.size ≤ maxLen)) (_HWn : Hid (name.size ≤ maxLen))
    (hR : inB op 3 5 = false) (hm : mod.toList.isEmpty = true) (hn : name.toList.isEmpty = true) (ho : Hid (op ≠ 1)) :
    Calls Tryz.prog 115 #[.agg #[.int .i64 op, .int .i64 n, .string mod, .string name, .slice aa l.length cap], .int .i64 3, .int .i64 deep] w fun e w' => e = .returned (.bool (eL 3 (k + 1) (.mk op n mod name l))) ∧ Below w.heap.size w w' := by
  have HR : Hid (∀ {b : Bool}, (eBad 3 (.mk op n mod name l) || l.any (eL 3 k)) = b → b = eL 3 (k + 1) (.mk op n mod name l)) := fun h => by rw [← h]; simp [eL, Ex.args]
  have HBx : Hid (Blk (w.alloc (.cells #[.int .i64 op, .int .i64 n, .string mod, .string name, .slice aa l.length cap] 76)) w.heap.size [.int .i64 op, .int .i64 n, .string mod, .string name, .slice aa l.length cap]) := Blk.new w _ _
  have HB0 : Hid (Below w.heap.size w (w.alloc (.cells #[.int .i64 op, .int .i64 n, .string mod, .string name, .slice aa l.length cap] 76))) := al1 _ _
  have HC : Hid (eBad 3 (.mk op n mod name l) = ((inB op 3 5 && !fineB mod name) || (!inB op 3 5 && (!mod.toList.isEmpty || !name.toList.isEmpty)) || (op == 1 && !inB n 0 1099511627775) || (op != 1 && n != 0) || (decide (0 ≤ exN op) && ((l.length : Int) != exN op)))) := rfl
  generalize hCC : eBad 3 (.mk op n mod name l) = C at HC HR
  clear hCC
  go_enter Tryz.func115, Tryz.ntmps115
  go_upto_region 11 with fail
  generalize hW0 : w.alloc (.cells #[.int .i64 op, .int .i64 n, .string mod, .string name, .slice aa l.length cap] 76) = W0 at *
  clear hW0
  go_cut [89] (fun v wc => v = .bool C ∧ Hid (Below W0.heap.size W0 wc))
  case first =>
    clear HD HI HR HB0
    obtain ⟨x0, x1, x2, x3, x4, xz⟩ := HBx.out.c5
    have HBz : Hid (Below W0.heap.size W0 W0.drew) := (Below.refl _ _).drew
    generalize hq : exN op = q at *
    have ho := ho.out
    have ho1 : (op == 1) = false := beq_eq_false_iff_ne.2 ho
    have ho2 : (op != 1) = true := by simp [ho]
    clear ho
    cases hN : (n != 0) with
    | true =>
      have HE : Hid (C = true) := by show _ = _; rw [HC.out]; simp [hR, hm, hn, ho1, ho2, hN]
      go_quiet ((first | (go_at_call 128; exact Calls.quiet_of_same (exprRef_at hR _)) | (go_at_call 129; exact Calls.quiet_of_same (exprArgs_at hq _)) | (go_at_call 44; exact Calls.quiet_of_same (within_at rfl _))))
      go_wp2_with fail
      go_meet
      exact ⟨by rw [HE.out], drewN_below _ _⟩
    | false =>
      cases h0 : decide (0 ≤ q) with
      | false =>
        have HE : Hid (C = false) := by show _ = _; rw [HC.out]; simp [hR, hm, hn, ho1, ho2, hN, h0]
        go_quiet ((first | (go_at_call 128; exact Calls.quiet_of_same (exprRef_at hR _)) | (go_at_call 129; exact Calls.quiet_of_same (exprArgs_at hq _)) | (go_at_call 44; exact Calls.quiet_of_same (within_at rfl _))))
        go_wp2_with fail
        go_meet
        exact ⟨by rw [HE.out], drewN_below _ _⟩
      | true =>
        cases hl : ((l.length : Int) != q) with
        | false =>
          have HE : Hid (C = false) := by show _ = _; rw [HC.out]; simp [hR, hm, hn, ho1, ho2, hN, h0, hl]
          go_quiet ((first | (go_at_call 128; exact Calls.quiet_of_same (exprRef_at hR _)) | (go_at_call 129; exact Calls.quiet_of_same (exprArgs_at hq _)) | (go_at_call 44; exact Calls.quiet_of_same (within_at rfl _))))
          go_wp2_with fail
          go_meet
          exact ⟨by rw [HE.out], drewN_below _ _⟩
        | true =>
          have HE : Hid (C = true) := by show _ = _; rw [HC.out]; simp [hR, hm, hn, ho1, ho2, hN, h0, hl]
          go_quiet ((first | (go_at_call 128; exact Calls.quiet_of_same (exprRef_at hR _)) | (go_at_call 129; exact Calls.quiet_of_same (exprArgs_at hq _)) | (go_at_call 44; exact Calls.quiet_of_same (within_at rfl _))))
          go_wp2_with fail
          go_meet
          exact ⟨by rw [HE.out], drewN_below _ _⟩
  case rest =>
    obtain ⟨rfl, HBc⟩ := hcut
    have HB0' : Hid (Below w.heap.size w wc) := thenB HB0.out HBc.out
    have HBx' : Hid (Blk wc w.heap.size [.int .i64 op, .int .i64 n, .string mod, .string name, .slice aa l.length cap]) := HBx.out.later HBc.out
    clear HB0 HBx HBc HC
    have HB0 := HB0'
    have HBx := HBx'
    clear HB0' HBx'
    have x4 := HBx.out.cell 4 _ rfl
    have xz := HBx.out.lt
    cases hCb : C with
    | true =>
      subst hCb
      go_wp2_with fail
      go_ret
      exact ⟨ret_bool (HR.out rfl), HB0.out⟩
    | false =>
      subst hCb
      go_wp2_with fail
      go_loopw [7] (fun i wr => ∃ j : Nat, j ≤ l.length ∧ i = .int .i64 j ∧ (l.take j).any (eL 3 k) = false ∧ Below w.heap.size w wr ∧ Blk wr w.heap.size [.int .i64 op, .int .i64 n, .string mod, .string name, .slice aa l.length cap]) (fun i _ => l.length - (intOf i).toNat)
      case atStart => exact ⟨0, Nat.zero_le _, rfl, rfl, HB0.out, HBx.out⟩
      case round =>
        obtain ⟨j, hj, rfl, hall, hb, hB⟩ := hrel
        clear HBx HB0
        clear x4 xz
        have q4 := hB.cell 4 _ rfl
        have qz := hB.lt
        have HB : Hid (Blk wr w.heap.size [.int .i64 op, .int .i64 n, .string mod, .string name, .slice aa l.length cap]) := hB
        have HA : Hid ((l.take j).any (eL 3 k) = false) := hall
        clear hall hB
        by_cases hlt : j < l.length
        · obtain ⟨b, off, a2, cp, rfl, hx⟩ := (HD.out.later hb).ex j hlt
          have hc0 := hx.c0
          have hc1 := hx.c1
          have hc2 := hx.c2
          have hc3 := hx.c3
          have hc4 := hx.c4
          have hlb := hx.lt
          have HX : Hid (ExAt wr A b (off + j * 5) l[j] a2 cp) := hx
          clear hx
          go_wp2_with fail
          refine (HI.out l[j] a2 cp _ HX.out.args HX.out.wm HX.out.wna).mono ?_
          cases hr : eL 3 k l[j] with
          | true =>
            have HF : Hid (l.any (eL 3 k) = true) := any_at l _ j hlt hr
            rintro e w3 ⟨rfl, hb3⟩
            go_wp2_with fail
            go_ret
            exact ⟨ret_bool (HR.out (by rw [HF.out, Bool.or_true])), thenB hb hb3⟩
          | false =>
            have HT : Hid ((l.take (j + 1)).any (eL 3 k) = false) := by
              show _ = _
              rw [any_snoc l _ j hlt, HA.out, hr]; rfl
            rintro e w3 ⟨rfl, hb3⟩
            go_wp2_with fail
            go_roundw
            case rel => exact ⟨j + 1, by omega, by go_num, HT.out, thenB hb hb3, HB.out.later hb3⟩
            case measure => simp [intOf]; omega
        · have HT : Hid (l.any (eL 3 k) = false) := any_end HA.out hlt
          go_wp2_with fail
          go_ret
          exact ⟨ret_bool (HR.out (by rw [HT.out]; rfl)), hb⟩
end Go.Proofs.YtcekpobmbmnplaaGreatDoor
