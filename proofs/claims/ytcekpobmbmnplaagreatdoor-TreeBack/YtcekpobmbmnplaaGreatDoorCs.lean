/-
  The checker's tables: maps from an operation's number to what it has.
-/
import Derived.Test.YtcekpobmbmnplaaGreatDoorCa
import Derived.Maps.OwnSet
namespace Go.Proofs.YtcekpobmbmnplaaGreatDoor
open Go.RowKit Go.Maps

def heldE (v : Value) : Option (DataW Value × List MemPlace) := some (.held v, [])
theorem keyed3 : Keyed Tryz.prog 3 := int_keyed Tryz.underlying3
theorem zeroSh (w : World) : (zeroValue 78).run Tryz.prog w = .ok sh0.val w := by kernel_rfl

def ShFor (D : DataW Value) (f : Int → Option Sh) : Prop := ∀ a : Int, has D (.int .i64 a) = (f a).isSome ∧ D.atKey (.int .i64 a) (.held sh0.val) = .held ((f a).getD sh0).val
def upd (f : Int → Option Sh) (k : Int) (s : Sh) : Int → Option Sh := fun a => if a = k then some s else f a
theorem ShFor.put {D : DataW Value} {f : Int → Option Sh} (h : ShFor D f) (hD : IsMap D) (k : Int) (s : Sh) : ShFor (D.put (.int .i64 k) (.held s.val)) (upd f k s) := by
  intro a
  by_cases e : a = k
  · subst e
    simp only [upd, if_true]
    exact ⟨has_put_same (k := .int .i64 a) hD trivial _, atKey_put_same (k := .int .i64 a) hD trivial _ _⟩
  · simp only [upd, if_neg e]
    have hne : Lit.int .i64 a ≠ .int .i64 k := fun h => e (by injection h)
    rw [has_put_other hne, atKey_put_other hne]
    exact h a
/- A table lies in a block, with at most n entries. -/
def ShAt (w : World) (b n : Nat) (f : Int → Option Sh) : Prop := ∃ D, w.ownsMap Tryz.prog 3 heldE b n D ∧ ShFor D f
theorem ShAt.later {w w' : World} {b n : Nat} {f : Int → Option Sh} (h : ShAt w b n f) (hb : Below w.heap.size w w') : ShAt w' b n f := by
  obtain ⟨D, h1, h2⟩ := h
  have hlt := h1.lt
  obtain ⟨es, clock, hb', r⟩ := h1
  exact ⟨D, ⟨es, clock, (hb.block b hlt).trans hb', r⟩, h2⟩
theorem ShAt.lt {w : World} {b n : Nat} {f : Int → Option Sh} (h : ShAt w b n f) : b < w.heap.size := by obtain ⟨D, h1, _⟩ := h; exact h1.lt
theorem ShAt.made (w : World) : ShAt (w.alloc (.map #[] 0)) w.heap.size 0 (fun _ => none) :=
  ⟨.map [], World.ownsMap_made w _ _ _, fun _ => ⟨rfl, rfl⟩⟩
theorem ShAt.look {w : World} {b n : Nat} {f : Int → Option Sh} (h : ShAt w b n f) {k : Int} (hk : (Lit.int .i64 k).wf = true) :
    (Instr.lookup 48 (.map (some b)) (.int .i64 k) false).run Tryz.prog w = .ok ((f k).getD sh0).val w := by
  obtain ⟨D, h1, h2⟩ := h
  obtain ⟨v, ps, hrun, hv⟩ := h1.lookup keyed3 Tryz.underlying48 (zeroSh w) (zd := .held sh0.val) (zp := []) rfl (keyOf_int_mk Tryz.underlying3 hk)
  rw [(h2 k).2] at hv
  simp only [heldE, Option.some.injEq, Prod.mk.injEq, DataW.held.injEq] at hv
  rw [hrun, hv.1]
theorem ShAt.look_ok {w : World} {b n : Nat} {f : Int → Option Sh} (h : ShAt w b n f) {k : Int} (hk : (Lit.int .i64 k).wf = true) :
    (Instr.lookup 48 (.map (some b)) (.int .i64 k) true).run Tryz.prog w = .ok (.tuple #[((f k).getD sh0).val, .bool (f k).isSome]) w := by
  obtain ⟨D, h1, h2⟩ := h
  obtain ⟨v, ps, hrun, hv⟩ := h1.look_ok keyed3 Tryz.underlying48 (zeroSh w) (zd := .held sh0.val) (zp := []) rfl (keyOf_int_mk Tryz.underlying3 hk)
  rw [(h2 k).2] at hv
  simp only [heldE, Option.some.injEq, Prod.mk.injEq, DataW.held.injEq] at hv
  rw [hrun, hv.1, (h2 k).1]
theorem ShAt.put {w : World} {b n : Nat} {f : Int → Option Sh} (h : ShAt w b n f) (hn : n < maxLen) {k : Int} (hk : (Lit.int .i64 k).wf = true) (s : Sh) :
    ∃ w', (Instr.mapUpdate 48 (.map (some b)) (.int .i64 k) s.val).run Tryz.prog w = .ok () w' ∧ ShAt w' b (n + 1) (upd f k s) ∧ w.grownBy w' (some b) := by
  obtain ⟨D, h1, h2⟩ := h
  obtain ⟨w', r1, r2, r3⟩ := h1.update keyed3 Tryz.underlying48 hn (keyOf_int_mk Tryz.underlying3 hk) (val := s.val) (d := .held s.val) (ps := []) rfl
  exact ⟨w', r1, ⟨_, r2, h2.put h1.isMap k s⟩, r3⟩
theorem insert_sh {ops : Array Oper} {rest : List Oper} {o : Oper} {a : Act} {w : World} {Q : Exit → Act → World → Prop} (hg : o.guard = none) (m x v : Operand) (hop : o.op = Op.insert 48 m x v) {b n : Nat} {f : Int → Option Sh} (hS : ShAt w b n f)
    (hm : a.eval m = .map (some b)) (k : Int) (hx : a.eval x = .int .i64 k) (x1 x2 : Bool) (x3 x4 : Int) (x5 x6 : Bool) (hv : a.eval v = .agg #[.bool x1, .bool x2, .int .i64 x3, .int .i64 x4, .bool x5, .bool x6]) (hk : (Lit.int .i64 k).wf = true) (hn : n < maxLen)
    (hK : ∀ w', ShAt w' b (n + 1) (upd f k ⟨x1, x2, x3, x4, x5, x6⟩) → w.grownBy w' (some b) → wpList Tryz.prog ops Q rest (a.put o.dst undef) w') : wpList Tryz.prog ops Q (o :: rest) a w := by
  refine wpList_plain hg fun K' hK' => ?_
  obtain ⟨w', hrun, r1, r2⟩ := hS.put hn hk ⟨x1, x2, x3, x4, x5, x6⟩
  simp only [Sh.val] at hrun
  unfold Oper.wp
  simp [execOp, hop, hm, hx, hv, hrun, Result.andThen]
  exact hK' _ _ (hK w' r1 r2)
theorem update_sh {ops : Array Oper} {rest : List Oper} {o : Oper} {a : Act} {w : World} {Q : Exit → Act → World → Prop} (hg : o.guard = none) (m x v : Operand) (hop : o.op = Op.mapUpdate 48 m x v) {b n : Nat} {f : Int → Option Sh} (hS : ShAt w b n f)
    (hm : a.eval m = .map (some b)) (k : Int) (hx : a.eval x = .int .i64 k) (x1 x2 : Bool) (x3 x4 : Int) (x5 x6 : Bool) (hv : a.eval v = .agg #[.bool x1, .bool x2, .int .i64 x3, .int .i64 x4, .bool x5, .bool x6]) (hk : (Lit.int .i64 k).wf = true) (hn : n < maxLen)
    (hK : ∀ w', ShAt w' b (n + 1) (upd f k ⟨x1, x2, x3, x4, x5, x6⟩) → w.grownBy w' (some b) → wpList Tryz.prog ops Q rest (a.put o.dst undef) w') : wpList Tryz.prog ops Q (o :: rest) a w := by
  refine wpList_plain hg fun K' hK' => ?_
  obtain ⟨w', hrun, r1, r2⟩ := hS.put hn hk ⟨x1, x2, x3, x4, x5, x6⟩
  simp only [Sh.val] at hrun
  unfold Oper.wp
  simp [execOp, hop, hm, hx, hv, hrun, Result.andThen]
  exact hK' _ _ (hK w' r1 r2)
def stF : Int → Option Sh := upd (upd (upd (upd (upd (upd (upd (fun _ => none) 1 ⟨true, false, 1, 1, false, false⟩) 2 ⟨true, false, 2, 2, false, false⟩) 3 ⟨true, false, 0, 3, false, false⟩) 4 ⟨false, false, 1, 1, true, true⟩) 5 ⟨false, false, 1, 1, true, false⟩) 6 ⟨false, false, 1, 1, false, false⟩) 7 ⟨false, false, 1, 1, false, false⟩
theorem stF_eq : stF = stSh := by
  funext a
  unfold stF upd stSh
  repeat' split
  all_goals first | rfl | omega
def exF0 : Int → Option Sh := upd (upd (upd (upd (upd (upd (fun _ => none) 1 ⟨false, true, 0, 0, false, false⟩) 2 ⟨false, false, 0, 0, false, false⟩) 3 ⟨true, false, 0, 0, false, false⟩) 4 ⟨true, false, 1, 1, false, false⟩) 5 ⟨true, false, 0, 3, false, false⟩) 6 ⟨false, false, 1, 1, false, false⟩
def exF (k : Nat) : Int → Option Sh := fun a => if 7 ≤ a ∧ a < 7 + (k : Int) then some ⟨false, false, 2, 2, false, false⟩ else exF0 a
theorem exF_zero : exF0 = exF 0 := by
  funext a
  unfold exF
  rw [if_neg (by omega)]
theorem exF_step (k : Nat) : upd (exF k) (7 + (k : Int)) ⟨false, false, 2, 2, false, false⟩ = exF (k + 1) := by
  funext a
  simp only [upd, exF]
  by_cases e : a = 7 + (k : Int)
  · rw [if_pos e, if_pos (by omega)]
  · rw [if_neg e]
    by_cases h : 7 ≤ a ∧ a < 7 + (k : Int)
    · rw [if_pos h, if_pos (by omega)]
    · rw [if_neg h, if_neg (by omega)]
theorem exF_end : exF 9 = exSh := by
  funext a
  unfold exF exF0 upd exSh
  repeat' split
  all_goals first | rfl | omega
set_option maxRecDepth 100000 in
set_option maxHeartbeats 800000 in
theorem stmtShapes_any (w : World) :
    Calls Tryz.prog 19 #[] w fun e w' => ∃ b, e = .returned (.map (some b)) ∧ ShAt w' b 7 stSh ∧ Below w.heap.size w w' := by
  have hmm := @run_makeMap Tryz.prog
  have hS := ShAt.made w
  have hB : Below w.heap.size w (w.alloc (.map #[] 0)) := (Below.refl _ _).alloc (Nat.le_refl _) _
  go_enter Tryz.func19, Tryz.ntmps19
  go_wp2_with (refine insert_sh rfl _ _ _ rfl hS rfl _ rfl _ _ _ _ _ _ rfl (by decide) (by decide) ?_; clear hS; intro w1 hS hG; replace hB := hB.grown hG hB.size (fun j hj => by cases hj; exact Nat.le_refl _); clear hG)
  go_ret
  refine ⟨_, rfl, ?_, hB⟩
  rw [← stF_eq]
  exact hS
set_option maxRecDepth 100000 in
set_option maxHeartbeats 1600000 in
theorem exprShapes_any (w : World) :
    Calls Tryz.prog 18 #[] w fun e w' => ∃ b, e = .returned (.map (some b)) ∧ ShAt w' b 15 exSh ∧ Below w.heap.size w w' := by
  have hmm := @run_makeMap Tryz.prog
  have hS := ShAt.made w
  have hB : Below w.heap.size w (w.alloc (.map #[] 0)) := (Below.refl _ _).alloc (Nat.le_refl _) _
  go_enter Tryz.func18, Tryz.ntmps18
  go_wp2_with (refine insert_sh rfl _ _ _ rfl hS rfl _ rfl _ _ _ _ _ _ rfl (by decide) (by decide) ?_; clear hS; intro w1 hS hG; replace hB := hB.grown hG hB.size (fun j hj => by cases hj; exact Nat.le_refl _); clear hG)
  have hS0 : ShAt w1 w.heap.size 6 (exF 0) := by rw [← exF_zero]; exact hS
  clear hS
  go_loopw [2] (fun i wr => ∃ k : Nat, k ≤ 9 ∧ i = .int .i64 (7 + (k : Int)) ∧ ShAt wr w.heap.size (6 + k) (exF k) ∧ Below w.heap.size w wr) (fun i _ => 16 - (intOf i).toNat)
  case atStart => exact ⟨0, by omega, rfl, hS0, hB⟩
  case round =>
    clear hS0 hB
    obtain ⟨k, hk, rfl, hS, hB⟩ := hrel
    by_cases hlt : k < 9
    · go_wp2_with (refine update_sh rfl _ _ _ rfl hS rfl _ rfl _ _ _ _ _ _ rfl (WalkArith.wf_i64 (by omega)) (by unfold maxLen; omega) ?_; clear hS; intro w2 hS hG; replace hB := hB.grown hG hB.size (fun j hj => by cases hj; exact Nat.le_refl _); clear hG)
      rw [exF_step] at hS
      go_roundw
      case rel => exact ⟨k + 1, by omega, by go_num, hS, hB⟩
      case measure => simp [intOf]; omega
    · obtain rfl : k = 9 := by omega
      go_wp2_with fail
      go_ret
      refine ⟨_, rfl, ?_, hB⟩
      rw [← exF_end]
      exact hS
end Go.Proofs.YtcekpobmbmnplaaGreatDoor
