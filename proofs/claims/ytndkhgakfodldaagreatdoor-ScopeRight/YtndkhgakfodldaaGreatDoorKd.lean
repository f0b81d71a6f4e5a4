/-
  Package units: arrays that may be meant; an expression without its arguments.
-/
import Derived.Test.YtndkhgakfodldaaGreatDoorKa
namespace Go.Proofs.YtndkhgakfodldaaGreatDoor
open Go.RowKit Go.Maps Go.WideMaps
set_option linter.unusedSimpArgs false
set_option linter.unusedVariables false
set_option maxRecDepth 100000

set_option maxHeartbeats 800000 in
theorem arrayHolds_any (c : Ck) (s : ByteArray) (x1 : Option Addr) (y1 : Nat) (x2 : Option Addr) (y2 : Nat) (x3 : Option Addr) (n3 y3 : Nat) (iv : Value) (n m at_ : Int) (w : World) (hC : CkAt w c (.agg #[.string s, .slice x1 c.uses y1, .int .i64 c.data, .slice x2 c.parts.length y2, .slice x3 n3 y3, iv, .int .i64 c.locals])) (hm : (Lit.int .i64 m).wf = true) (ha : (Lit.int .i64 at_).wf = true) :
    Calls Tryz.prog 211 #[.agg #[.string s, .slice x1 c.uses y1, .int .i64 c.data, .slice x2 c.parts.length y2, .slice x3 n3 y3, iv, .int .i64 c.locals], .int .i64 n, .int .i64 m, .int .i64 at_] w fun e w' => e = .returned (.bool (arrB c n m at_)) ∧ Below w.heap.size w w' := by
  have HN := hid (fun h1 h2 => hC.num (w.alloc (.cells #[.string s, .slice x1 c.uses y1, .int .i64 c.data, .slice x2 c.parts.length y2, .slice x3 n3 y3, iv, .int .i64 c.locals] 206)) (al1 _ _) m at_ n hm ha h1 h2)
  clear hC hm ha
  by_cases h1 : 1 ≤ n
  · by_cases h2 : n ≤ 32
    · have HR : Hid (arrB c n m at_ = numB c m at_ n) := by show _ = _; unfold arrB; rw [decide_eq_true ⟨h1, h2⟩]; rfl
      go_enter Tryz.func211, Tryz.ntmps211
      go_wp2_with fail
      refine (HN.out h1 h2).mono ?_
      rintro e w1 ⟨rfl, hb1⟩
      have HB1 := hid (thenB (al1 w _) hb1)
      clear hb1
      go_wp2_with fail
      go_ret
      exact ⟨ret_bool (by first | exact HR.out.symm | (rw [HR.out]; first | (simp; omega) | (simp [*]; done))), HB1.out⟩
    · have HR : Hid (arrB c n m at_ = false) := by show _ = _; unfold arrB; rw [decide_eq_false (by omega)]; rfl
      have h2' : 32 < n := by omega
      clear h2 HN
      go_enter Tryz.func211, Tryz.ntmps211
      go_wp2_with fail
      go_ret
      exact ⟨ret_bool (by first | exact HR.out.symm | (rw [HR.out]; first | (simp; omega) | (simp [*]; done))), al1 _ _⟩
  · have HR : Hid (arrB c n m at_ = false) := by show _ = _; unfold arrB; rw [decide_eq_false (by omega)]; rfl
    have h1' : n < 1 := by omega
    clear h1 HN
    go_enter Tryz.func211, Tryz.ntmps211
    go_wp2_with fail
    go_ret
    exact ⟨ret_bool (by first | exact HR.out.symm | (rw [HR.out]; first | (simp; omega) | (simp [*]; done))), al1 _ _⟩
set_option maxHeartbeats 3200000 in
theorem nodeHolds_any (c : Ck) (s : ByteArray) (x1 : Option Addr) (y1 : Nat) (x2 : Option Addr) (y2 : Nat) (x3 : Option Addr) (n3 y3 : Nat) (iv : Value) (x : Nd) (aa : Option Addr) (cp : Nat) (w : World) (hC : CkAt w c (.agg #[.string s, .slice x1 c.uses y1, .int .i64 c.data, .slice x2 c.parts.length y2, .slice x3 n3 y3, iv, .int .i64 c.locals])) (hm : (Lit.int .i64 x.m).wf = true) (ha : (Lit.int .i64 x.at_).wf = true) (hl : x.args.length ≤ 17592186044416) :
    Calls Tryz.prog 213 #[.agg #[.string s, .slice x1 c.uses y1, .int .i64 c.data, .slice x2 c.parts.length y2, .slice x3 n3 y3, iv, .int .i64 c.locals], .agg #[.int .i64 x.op, .int .i64 x.n, .int .i64 x.m, .int .i64 x.at_, .slice aa x.args.length cp]] w fun e w' => e = .returned (.bool (nodeA c x)) ∧ Below w.heap.size w w' := by
  obtain ⟨op, n, m, at_, args⟩ := x
  simp only [Nd.op, Nd.n, Nd.m, Nd.at_, Nd.args] at *
  have HC := hid hC
  have HM := hid hm
  have HA := hid ha
  clear hC hm ha
  by_cases o3 : op = 3
  · subst o3
    by_cases t2 : args.length = 0
    · by_cases t1 : n = 0
      · have HR : Hid (nodeA c (.mk 3 n m at_ args) = numB c m at_ 1) := by show _ = _; unfold nodeA; simp only [Nd.op, Nd.n, Nd.m, Nd.at_, Nd.args]; simp [*]
        go_enter Tryz.func213, Tryz.ntmps213
        go_wp2_with fail
        refine (HC.out.num _ (al2 _ _ _) m at_ 1 HM.out HA.out (by decide) (by decide)).mono ?_
        rintro e w1 ⟨rfl, hb1⟩
        have HB1 := hid (thenB (al2 w _ _) hb1)
        clear hb1
        go_wp2_with fail
        go_ret
        exact ⟨ret_bool (by first | exact HR.out.symm | (rw [HR.out]; first | (simp; omega) | (simp [*]; done))), HB1.out⟩
      · have HR : Hid (nodeA c (.mk 3 n m at_ args) = false) := by show _ = _; unfold nodeA; simp only [Nd.op, Nd.n, Nd.m, Nd.at_, Nd.args]; simp [*]
        have t' : n ≠ 0 := by omega
        clear t1
        go_enter Tryz.func213, Tryz.ntmps213
        go_wp2_with fail
        go_ret
        exact ⟨ret_bool (by first | exact HR.out.symm | (rw [HR.out]; first | (simp; omega) | (simp [*]; done))), al2 _ _ _⟩
    · have HR : Hid (nodeA c (.mk 3 n m at_ args) = false) := by show _ = _; unfold nodeA; simp only [Nd.op, Nd.n, Nd.m, Nd.at_, Nd.args]; simp [*]
      have t' : args.length ≠ 0 := by omega
      clear t2
      go_enter Tryz.func213, Tryz.ntmps213
      go_wp2_with fail
      go_ret
      exact ⟨ret_bool (by first | exact HR.out.symm | (rw [HR.out]; first | (simp; omega) | (simp [*]; done))), al2 _ _ _⟩
  by_cases o4 : op = 4
  · subst o4
    by_cases t1 : args.length = 1
    · have HR : Hid (nodeA c (.mk 4 n m at_ args) = arrB c n m at_) := by show _ = _; unfold nodeA; simp only [Nd.op, Nd.n, Nd.m, Nd.at_, Nd.args]; simp [*]
      go_enter Tryz.func213, Tryz.ntmps213
      go_wp2_with fail
      refine (arrayHolds_any c s x1 y1 x2 y2 x3 n3 y3 iv n m at_ _ (HC.out.later (al2 _ _ _)) HM.out HA.out).mono ?_
      rintro e w1 ⟨rfl, hb1⟩
      have HB1 := hid (thenB (al2 w _ _) hb1)
      clear hb1
      go_wp2_with fail
      go_ret
      exact ⟨ret_bool (by first | exact HR.out.symm | (rw [HR.out]; first | (simp; omega) | (simp [*]; done))), HB1.out⟩
    · have HR : Hid (nodeA c (.mk 4 n m at_ args) = false) := by show _ = _; unfold nodeA; simp only [Nd.op, Nd.n, Nd.m, Nd.at_, Nd.args]; simp [*]
      have t' : args.length ≠ 1 := by omega
      clear t1
      go_enter Tryz.func213, Tryz.ntmps213
      go_wp2_with fail
      go_ret
      exact ⟨ret_bool (by first | exact HR.out.symm | (rw [HR.out]; first | (simp; omega) | (simp [*]; done))), al2 _ _ _⟩
  by_cases o5 : op = 5
  · subst o5
    by_cases t1 : n = 0
    · have HR : Hid (nodeA c (.mk 5 n m at_ args) = prtB c m at_ args.length) := by show _ = _; unfold nodeA; simp only [Nd.op, Nd.n, Nd.m, Nd.at_, Nd.args]; simp [*]
      go_enter Tryz.func213, Tryz.ntmps213
      go_wp2_with fail
      refine (HC.out.prt _ (al2 _ _ _) m at_ args.length HM.out HA.out hl).mono ?_
      rintro e w1 ⟨rfl, hb1⟩
      have HB1 := hid (thenB (al2 w _ _) hb1)
      clear hb1
      go_wp2_with fail
      go_ret
      exact ⟨ret_bool (by first | exact HR.out.symm | (rw [HR.out]; first | (simp; omega) | (simp [*]; done))), HB1.out⟩
    · have HR : Hid (nodeA c (.mk 5 n m at_ args) = false) := by show _ = _; unfold nodeA; simp only [Nd.op, Nd.n, Nd.m, Nd.at_, Nd.args]; simp [*]
      have t' : n ≠ 0 := by omega
      clear t1
      go_enter Tryz.func213, Tryz.ntmps213
      go_wp2_with fail
      go_ret
      exact ⟨ret_bool (by first | exact HR.out.symm | (rw [HR.out]; first | (simp; omega) | (simp [*]; done))), al2 _ _ _⟩
  by_cases o16 : op = 16
  · subst o16
    by_cases t3 : args.length = 0
    · by_cases t2 : n = 0
      · by_cases t1 : m = 0
        · have HR : Hid (nodeA c (.mk 16 n m at_ args) = locB c at_) := by show _ = _; unfold nodeA; simp only [Nd.op, Nd.n, Nd.m, Nd.at_, Nd.args]; simp [*]
          go_enter Tryz.func213, Tryz.ntmps213
          go_wp2_with fail
          refine (localHolds_any c s x1 y1 x2 y2 x3 n3 y3 iv at_ _).mono ?_
          rintro e w1 ⟨rfl, hb1⟩
          have HB1 := hid (thenB (al2 w _ _) hb1)
          clear hb1
          go_wp2_with fail
          go_ret
          exact ⟨ret_bool (by first | exact HR.out.symm | (rw [HR.out]; first | (simp; omega) | (simp [*]; done))), HB1.out⟩
        · have HR : Hid (nodeA c (.mk 16 n m at_ args) = false) := by show _ = _; unfold nodeA; simp only [Nd.op, Nd.n, Nd.m, Nd.at_, Nd.args]; simp [*]
          have t' : m ≠ 0 := by omega
          clear t1
          go_enter Tryz.func213, Tryz.ntmps213
          go_wp2_with fail
          go_ret
          exact ⟨ret_bool (by first | exact HR.out.symm | (rw [HR.out]; first | (simp; omega) | (simp [*]; done))), al2 _ _ _⟩
      · have HR : Hid (nodeA c (.mk 16 n m at_ args) = false) := by show _ = _; unfold nodeA; simp only [Nd.op, Nd.n, Nd.m, Nd.at_, Nd.args]; simp [*]
        have t' : n ≠ 0 := by omega
        clear t2
        go_enter Tryz.func213, Tryz.ntmps213
        go_wp2_with fail
        go_ret
        exact ⟨ret_bool (by first | exact HR.out.symm | (rw [HR.out]; first | (simp; omega) | (simp [*]; done))), al2 _ _ _⟩
    · have HR : Hid (nodeA c (.mk 16 n m at_ args) = false) := by show _ = _; unfold nodeA; simp only [Nd.op, Nd.n, Nd.m, Nd.at_, Nd.args]; simp [*]
      have t' : args.length ≠ 0 := by omega
      clear t3
      go_enter Tryz.func213, Tryz.ntmps213
      go_wp2_with fail
      go_ret
      exact ⟨ret_bool (by first | exact HR.out.symm | (rw [HR.out]; first | (simp; omega) | (simp [*]; done))), al2 _ _ _⟩
  by_cases o1 : op = 1
  · subst o1
    by_cases t5 : args.length = 0
    · by_cases t4 : 0 ≤ n
      · by_cases t3 : n ≤ 1099511627775
        · by_cases t2 : m = 0
          · by_cases t1 : at_ = 0
            · have HR : Hid (nodeA c (.mk 1 n m at_ args) = true) := by show _ = _; unfold nodeA; simp only [Nd.op, Nd.n, Nd.m, Nd.at_, Nd.args]; simp [*]
              go_enter Tryz.func213, Tryz.ntmps213
              go_wp2_with fail
              go_ret
              exact ⟨ret_bool (by first | exact HR.out.symm | (rw [HR.out]; first | (simp; omega) | (simp [*]; done))), al2 _ _ _⟩
            · have HR : Hid (nodeA c (.mk 1 n m at_ args) = false) := by show _ = _; unfold nodeA; simp only [Nd.op, Nd.n, Nd.m, Nd.at_, Nd.args]; simp [*]
              have t' : at_ ≠ 0 := by omega
              clear t1
              go_enter Tryz.func213, Tryz.ntmps213
              go_wp2_with fail
              go_ret
              exact ⟨ret_bool (by first | exact HR.out.symm | (rw [HR.out]; first | (simp; omega) | (simp [*]; done))), al2 _ _ _⟩
          · have HR : Hid (nodeA c (.mk 1 n m at_ args) = false) := by show _ = _; unfold nodeA; simp only [Nd.op, Nd.n, Nd.m, Nd.at_, Nd.args]; simp [*]
            have t' : m ≠ 0 := by omega
            clear t2
            go_enter Tryz.func213, Tryz.ntmps213
            go_wp2_with fail
            go_ret
            exact ⟨ret_bool (by first | exact HR.out.symm | (rw [HR.out]; first | (simp; omega) | (simp [*]; done))), al2 _ _ _⟩
        · have HR : Hid (nodeA c (.mk 1 n m at_ args) = false) := by show _ = _; unfold nodeA; simp only [Nd.op, Nd.n, Nd.m, Nd.at_, Nd.args]; simp [*]
          have t' : 1099511627775 < n := by omega
          clear t3
          go_enter Tryz.func213, Tryz.ntmps213
          go_wp2_with fail
          go_ret
          exact ⟨ret_bool (by first | exact HR.out.symm | (rw [HR.out]; first | (simp; omega) | (simp [*]; done))), al2 _ _ _⟩
      · have HR : Hid (nodeA c (.mk 1 n m at_ args) = false) := by show _ = _; unfold nodeA; simp only [Nd.op, Nd.n, Nd.m, Nd.at_, Nd.args]; simp [*]
        have t' : n < 0 := by omega
        clear t4
        go_enter Tryz.func213, Tryz.ntmps213
        go_wp2_with fail
        go_ret
        exact ⟨ret_bool (by first | exact HR.out.symm | (rw [HR.out]; first | (simp; omega) | (simp [*]; done))), al2 _ _ _⟩
    · have HR : Hid (nodeA c (.mk 1 n m at_ args) = false) := by show _ = _; unfold nodeA; simp only [Nd.op, Nd.n, Nd.m, Nd.at_, Nd.args]; simp [*]
      have t' : args.length ≠ 0 := by omega
      clear t5
      go_enter Tryz.func213, Tryz.ntmps213
      go_wp2_with fail
      go_ret
      exact ⟨ret_bool (by first | exact HR.out.symm | (rw [HR.out]; first | (simp; omega) | (simp [*]; done))), al2 _ _ _⟩
  have HQ : Hid (nodeA c (.mk op n m at_ args) = (decide ((args.length : Int) = argsOf op) && (decide (n = 0) && (decide (m = 0) && decide (at_ = 0))))) := by
    show _ = _; unfold nodeA; exact (if_neg o3).trans ((if_neg o4).trans ((if_neg o5).trans ((if_neg o16).trans (if_neg o1))))
  have HG := hid (argsOf_any op)
  generalize argsOf op = g at *
  by_cases t4 : (args.length : Int) = g
  · by_cases t3 : n = 0
    · by_cases t2 : m = 0
      · by_cases t1 : at_ = 0
        · have HR : Hid (nodeA c (.mk op n m at_ args) = true) := by show _ = _; rw [HQ.out]; simp [*]
          go_enter Tryz.func213, Tryz.ntmps213
          go_wp2_with fail
          refine (HG.out _).mono ?_
          rintro e w1 ⟨rfl, rfl⟩
          go_wp2_with fail
          go_ret
          exact ⟨ret_bool (by first | exact HR.out.symm | (rw [HR.out]; first | (simp; omega) | (simp [*]; done))), al2 _ _ _⟩
        · have HR : Hid (nodeA c (.mk op n m at_ args) = false) := by show _ = _; rw [HQ.out]; simp [*]
          have t' : at_ ≠ 0 := by omega
          clear t1
          go_enter Tryz.func213, Tryz.ntmps213
          go_wp2_with fail
          refine (HG.out _).mono ?_
          rintro e w1 ⟨rfl, rfl⟩
          go_wp2_with fail
          go_ret
          exact ⟨ret_bool (by first | exact HR.out.symm | (rw [HR.out]; first | (simp; omega) | (simp [*]; done))), al2 _ _ _⟩
      · have HR : Hid (nodeA c (.mk op n m at_ args) = false) := by show _ = _; rw [HQ.out]; simp [*]
        have t' : m ≠ 0 := by omega
        clear t2
        go_enter Tryz.func213, Tryz.ntmps213
        go_wp2_with fail
        refine (HG.out _).mono ?_
        rintro e w1 ⟨rfl, rfl⟩
        go_wp2_with fail
        go_ret
        exact ⟨ret_bool (by first | exact HR.out.symm | (rw [HR.out]; first | (simp; omega) | (simp [*]; done))), al2 _ _ _⟩
    · have HR : Hid (nodeA c (.mk op n m at_ args) = false) := by show _ = _; rw [HQ.out]; simp [*]
      have t' : n ≠ 0 := by omega
      clear t3
      go_enter Tryz.func213, Tryz.ntmps213
      go_wp2_with fail
      refine (HG.out _).mono ?_
      rintro e w1 ⟨rfl, rfl⟩
      go_wp2_with fail
      go_ret
      exact ⟨ret_bool (by first | exact HR.out.symm | (rw [HR.out]; first | (simp; omega) | (simp [*]; done))), al2 _ _ _⟩
  · have HR : Hid (nodeA c (.mk op n m at_ args) = false) := by show _ = _; rw [HQ.out]; simp [*]
    have t' : (args.length : Int) ≠ g := by omega
    clear t4
    go_enter Tryz.func213, Tryz.ntmps213
    go_wp2_with fail
    refine (HG.out _).mono ?_
    rintro e w1 ⟨rfl, rfl⟩
    go_wp2_with fail
    go_ret
    exact ⟨ret_bool (by first | exact HR.out.symm | (rw [HR.out]; first | (simp; omega) | (simp [*]; done))), al2 _ _ _⟩
end Go.Proofs.YtndkhgakfodldaaGreatDoor

namespace Go.Proofs.YtndkhgakfodldaaGreatDoor
open Go.RowKit Go.Maps Go.WideMaps
set_option linter.unusedSimpArgs false
set_option linter.unusedVariables false
set_option maxRecDepth 100000

set_option maxHeartbeats 3200000 in
theorem actHolds_any (c : Ck) (s : ByteArray) (x1 : Option Addr) (y1 : Nat) (x2 : Option Addr) (y2 : Nat) (x3 : Option Addr) (n3 y3 : Nat) (iv : Value) (x : Ac) (aa : Option Addr) (cp : Nat) (ab : Option Addr) (cb : Nat) (ao : Option Addr) (co : Nat) (w : World) (hC : CkAt w c (.agg #[.string s, .slice x1 c.uses y1, .int .i64 c.data, .slice x2 c.parts.length y2, .slice x3 n3 y3, iv, .int .i64 c.locals])) (hm : (Lit.int .i64 x.m).wf = true) (ha : (Lit.int .i64 x.at_).wf = true) (hl : x.args.length ≤ 17592186044416) :
    Calls Tryz.prog 169 #[.agg #[.string s, .slice x1 c.uses y1, .int .i64 c.data, .slice x2 c.parts.length y2, .slice x3 n3 y3, iv, .int .i64 c.locals], .agg #[.int .i64 x.op, .int .i64 x.n, .int .i64 x.m, .int .i64 x.at_, .slice aa x.args.length cp, .slice ab x.body.length cb, .slice ao x.other.length co]] w fun e w' => e = .returned (.bool (actA c x)) ∧ Below w.heap.size w w' := by
  obtain ⟨op, n, m, at_, args, body, other⟩ := x
  simp only [Ac.op, Ac.n, Ac.m, Ac.at_, Ac.args, Ac.body, Ac.other] at *
  have HC := hid hC
  have HM := hid hm
  have HA := hid ha
  clear hC hm ha
  by_cases o1 : op = 1
  · subst o1
    by_cases om : m = -1
    · subst om
      by_cases t2 : args.length = 1
      · by_cases t1 : n = 0
        · have HR : Hid (actA c (.mk 1 n (-1) at_ args body other) = locB c at_) := by show _ = _; unfold actA; simp only [Ac.op, Ac.n, Ac.m, Ac.at_, Ac.args]; simp [*]
          go_enter Tryz.func169, Tryz.ntmps169
          go_wp2_with fail
          refine (localHolds_any c s x1 y1 x2 y2 x3 n3 y3 iv at_ _).mono ?_
          rintro e w1 ⟨rfl, hb1⟩
          have HB1 := hid (thenB (al2 w _ _) hb1)
          clear hb1
          go_wp2_with fail
          go_ret
          exact ⟨ret_bool (by first | exact HR.out.symm | (rw [HR.out]; first | (simp; omega) | (simp [*]; done))), HB1.out⟩
        · have HR : Hid (actA c (.mk 1 n (-1) at_ args body other) = false) := by show _ = _; unfold actA; simp only [Ac.op, Ac.n, Ac.m, Ac.at_, Ac.args]; simp [*]
          have t' : n ≠ 0 := by omega
          clear t1
          go_enter Tryz.func169, Tryz.ntmps169
          go_wp2_with fail
          go_ret
          exact ⟨ret_bool (by first | exact HR.out.symm | (rw [HR.out]; first | (simp; omega) | (simp [*]; done))), al2 _ _ _⟩
      · have HR : Hid (actA c (.mk 1 n (-1) at_ args body other) = false) := by show _ = _; unfold actA; simp only [Ac.op, Ac.n, Ac.m, Ac.at_, Ac.args]; simp [*]
        have t' : args.length ≠ 1 := by omega
        clear t2
        go_enter Tryz.func169, Tryz.ntmps169
        go_wp2_with fail
        go_ret
        exact ⟨ret_bool (by first | exact HR.out.symm | (rw [HR.out]; first | (simp; omega) | (simp [*]; done))), al2 _ _ _⟩
    · by_cases t2 : args.length = 1
      · by_cases t1 : n = 0
        · have HR : Hid (actA c (.mk 1 n m at_ args body other) = numB c m at_ 1) := by show _ = _; unfold actA; simp only [Ac.op, Ac.n, Ac.m, Ac.at_, Ac.args]; simp [*]
          go_enter Tryz.func169, Tryz.ntmps169
          go_wp2_with fail
          refine (HC.out.num _ (al2 _ _ _) m at_ 1 HM.out HA.out (by decide) (by decide)).mono ?_
          rintro e w1 ⟨rfl, hb1⟩
          have HB1 := hid (thenB (al2 w _ _) hb1)
          clear hb1
          go_wp2_with fail
          go_ret
          exact ⟨ret_bool (by first | exact HR.out.symm | (rw [HR.out]; first | (simp; omega) | (simp [*]; done))), HB1.out⟩
        · have HR : Hid (actA c (.mk 1 n m at_ args body other) = false) := by show _ = _; unfold actA; simp only [Ac.op, Ac.n, Ac.m, Ac.at_, Ac.args]; simp [*]
          have t' : n ≠ 0 := by omega
          clear t1
          go_enter Tryz.func169, Tryz.ntmps169
          go_wp2_with fail
          go_ret
          exact ⟨ret_bool (by first | exact HR.out.symm | (rw [HR.out]; first | (simp; omega) | (simp [*]; done))), al2 _ _ _⟩
      · have HR : Hid (actA c (.mk 1 n m at_ args body other) = false) := by show _ = _; unfold actA; simp only [Ac.op, Ac.n, Ac.m, Ac.at_, Ac.args]; simp [*]
        have t' : args.length ≠ 1 := by omega
        clear t2
        go_enter Tryz.func169, Tryz.ntmps169
        go_wp2_with fail
        go_ret
        exact ⟨ret_bool (by first | exact HR.out.symm | (rw [HR.out]; first | (simp; omega) | (simp [*]; done))), al2 _ _ _⟩
  by_cases o2 : op = 2
  · subst o2
    by_cases t1 : args.length = 2
    · have HR : Hid (actA c (.mk 2 n m at_ args body other) = arrB c n m at_) := by show _ = _; unfold actA; simp only [Ac.op, Ac.n, Ac.m, Ac.at_, Ac.args]; simp [*]
      go_enter Tryz.func169, Tryz.ntmps169
      go_wp2_with fail
      refine (arrayHolds_any c s x1 y1 x2 y2 x3 n3 y3 iv n m at_ _ (HC.out.later (al2 _ _ _)) HM.out HA.out).mono ?_
      rintro e w1 ⟨rfl, hb1⟩
      have HB1 := hid (thenB (al2 w _ _) hb1)
      clear hb1
      go_wp2_with fail
      go_ret
      exact ⟨ret_bool (by first | exact HR.out.symm | (rw [HR.out]; first | (simp; omega) | (simp [*]; done))), HB1.out⟩
    · have HR : Hid (actA c (.mk 2 n m at_ args body other) = false) := by show _ = _; unfold actA; simp only [Ac.op, Ac.n, Ac.m, Ac.at_, Ac.args]; simp [*]
      have t' : args.length ≠ 2 := by omega
      clear t1
      go_enter Tryz.func169, Tryz.ntmps169
      go_wp2_with fail
      go_ret
      exact ⟨ret_bool (by first | exact HR.out.symm | (rw [HR.out]; first | (simp; omega) | (simp [*]; done))), al2 _ _ _⟩
  by_cases o3 : op = 3
  · subst o3
    by_cases t1 : n = 0
    · have HR : Hid (actA c (.mk 3 n m at_ args body other) = prtB c m at_ args.length) := by show _ = _; unfold actA; simp only [Ac.op, Ac.n, Ac.m, Ac.at_, Ac.args]; simp [*]
      go_enter Tryz.func169, Tryz.ntmps169
      go_wp2_with fail
      refine (HC.out.prt _ (al2 _ _ _) m at_ args.length HM.out HA.out hl).mono ?_
      rintro e w1 ⟨rfl, hb1⟩
      have HB1 := hid (thenB (al2 w _ _) hb1)
      clear hb1
      go_wp2_with fail
      go_ret
      exact ⟨ret_bool (by first | exact HR.out.symm | (rw [HR.out]; first | (simp; omega) | (simp [*]; done))), HB1.out⟩
    · have HR : Hid (actA c (.mk 3 n m at_ args body other) = false) := by show _ = _; unfold actA; simp only [Ac.op, Ac.n, Ac.m, Ac.at_, Ac.args]; simp [*]
      have t' : n ≠ 0 := by omega
      clear t1
      go_enter Tryz.func169, Tryz.ntmps169
      go_wp2_with fail
      go_ret
      exact ⟨ret_bool (by first | exact HR.out.symm | (rw [HR.out]; first | (simp; omega) | (simp [*]; done))), al2 _ _ _⟩
  by_cases o4 : op = 4
  · subst o4
    by_cases t4 : args.length = 1
    · by_cases t3 : n = 0
      · by_cases t2 : m = 0
        · by_cases t1 : at_ = 0
          · have HR : Hid (actA c (.mk 4 n m at_ args body other) = true) := by show _ = _; unfold actA; simp only [Ac.op, Ac.n, Ac.m, Ac.at_, Ac.args]; simp [*]
            go_enter Tryz.func169, Tryz.ntmps169
            go_wp2_with fail
            go_ret
            exact ⟨ret_bool (by first | exact HR.out.symm | (rw [HR.out]; first | (simp; omega) | (simp [*]; done))), al2 _ _ _⟩
          · have HR : Hid (actA c (.mk 4 n m at_ args body other) = false) := by show _ = _; unfold actA; simp only [Ac.op, Ac.n, Ac.m, Ac.at_, Ac.args]; simp [*]
            have t' : at_ ≠ 0 := by omega
            clear t1
            go_enter Tryz.func169, Tryz.ntmps169
            go_wp2_with fail
            go_ret
            exact ⟨ret_bool (by first | exact HR.out.symm | (rw [HR.out]; first | (simp; omega) | (simp [*]; done))), al2 _ _ _⟩
        · have HR : Hid (actA c (.mk 4 n m at_ args body other) = false) := by show _ = _; unfold actA; simp only [Ac.op, Ac.n, Ac.m, Ac.at_, Ac.args]; simp [*]
          have t' : m ≠ 0 := by omega
          clear t2
          go_enter Tryz.func169, Tryz.ntmps169
          go_wp2_with fail
          go_ret
          exact ⟨ret_bool (by first | exact HR.out.symm | (rw [HR.out]; first | (simp; omega) | (simp [*]; done))), al2 _ _ _⟩
      · have HR : Hid (actA c (.mk 4 n m at_ args body other) = false) := by show _ = _; unfold actA; simp only [Ac.op, Ac.n, Ac.m, Ac.at_, Ac.args]; simp [*]
        have t' : n ≠ 0 := by omega
        clear t3
        go_enter Tryz.func169, Tryz.ntmps169
        go_wp2_with fail
        go_ret
        exact ⟨ret_bool (by first | exact HR.out.symm | (rw [HR.out]; first | (simp; omega) | (simp [*]; done))), al2 _ _ _⟩
    · have HR : Hid (actA c (.mk 4 n m at_ args body other) = false) := by show _ = _; unfold actA; simp only [Ac.op, Ac.n, Ac.m, Ac.at_, Ac.args]; simp [*]
      have t' : args.length ≠ 1 := by omega
      clear t4
      go_enter Tryz.func169, Tryz.ntmps169
      go_wp2_with fail
      go_ret
      exact ⟨ret_bool (by first | exact HR.out.symm | (rw [HR.out]; first | (simp; omega) | (simp [*]; done))), al2 _ _ _⟩
  by_cases o5 : op = 5
  · subst o5
    by_cases t4 : args.length = 1
    · by_cases t3 : n = 0
      · by_cases t2 : m = 0
        · by_cases t1 : at_ = 0
          · have HR : Hid (actA c (.mk 5 n m at_ args body other) = true) := by show _ = _; unfold actA; simp only [Ac.op, Ac.n, Ac.m, Ac.at_, Ac.args]; simp [*]
            go_enter Tryz.func169, Tryz.ntmps169
            go_wp2_with fail
            go_ret
            exact ⟨ret_bool (by first | exact HR.out.symm | (rw [HR.out]; first | (simp; omega) | (simp [*]; done))), al2 _ _ _⟩
          · have HR : Hid (actA c (.mk 5 n m at_ args body other) = false) := by show _ = _; unfold actA; simp only [Ac.op, Ac.n, Ac.m, Ac.at_, Ac.args]; simp [*]
            have t' : at_ ≠ 0 := by omega
            clear t1
            go_enter Tryz.func169, Tryz.ntmps169
            go_wp2_with fail
            go_ret
            exact ⟨ret_bool (by first | exact HR.out.symm | (rw [HR.out]; first | (simp; omega) | (simp [*]; done))), al2 _ _ _⟩
        · have HR : Hid (actA c (.mk 5 n m at_ args body other) = false) := by show _ = _; unfold actA; simp only [Ac.op, Ac.n, Ac.m, Ac.at_, Ac.args]; simp [*]
          have t' : m ≠ 0 := by omega
          clear t2
          go_enter Tryz.func169, Tryz.ntmps169
          go_wp2_with fail
          go_ret
          exact ⟨ret_bool (by first | exact HR.out.symm | (rw [HR.out]; first | (simp; omega) | (simp [*]; done))), al2 _ _ _⟩
      · have HR : Hid (actA c (.mk 5 n m at_ args body other) = false) := by show _ = _; unfold actA; simp only [Ac.op, Ac.n, Ac.m, Ac.at_, Ac.args]; simp [*]
        have t' : n ≠ 0 := by omega
        clear t3
        go_enter Tryz.func169, Tryz.ntmps169
        go_wp2_with fail
        go_ret
        exact ⟨ret_bool (by first | exact HR.out.symm | (rw [HR.out]; first | (simp; omega) | (simp [*]; done))), al2 _ _ _⟩
    · have HR : Hid (actA c (.mk 5 n m at_ args body other) = false) := by show _ = _; unfold actA; simp only [Ac.op, Ac.n, Ac.m, Ac.at_, Ac.args]; simp [*]
      have t' : args.length ≠ 1 := by omega
      clear t4
      go_enter Tryz.func169, Tryz.ntmps169
      go_wp2_with fail
      go_ret
      exact ⟨ret_bool (by first | exact HR.out.symm | (rw [HR.out]; first | (simp; omega) | (simp [*]; done))), al2 _ _ _⟩
  by_cases o6 : op = 6
  · subst o6
    by_cases t4 : args.length = 1
    · by_cases t3 : n = 0
      · by_cases t2 : m = 0
        · by_cases t1 : at_ = 0
          · have HR : Hid (actA c (.mk 6 n m at_ args body other) = true) := by show _ = _; unfold actA; simp only [Ac.op, Ac.n, Ac.m, Ac.at_, Ac.args]; simp [*]
            go_enter Tryz.func169, Tryz.ntmps169
            go_wp2_with fail
            go_ret
            exact ⟨ret_bool (by first | exact HR.out.symm | (rw [HR.out]; first | (simp; omega) | (simp [*]; done))), al2 _ _ _⟩
          · have HR : Hid (actA c (.mk 6 n m at_ args body other) = false) := by show _ = _; unfold actA; simp only [Ac.op, Ac.n, Ac.m, Ac.at_, Ac.args]; simp [*]
            have t' : at_ ≠ 0 := by omega
            clear t1
            go_enter Tryz.func169, Tryz.ntmps169
            go_wp2_with fail
            go_ret
            exact ⟨ret_bool (by first | exact HR.out.symm | (rw [HR.out]; first | (simp; omega) | (simp [*]; done))), al2 _ _ _⟩
        · have HR : Hid (actA c (.mk 6 n m at_ args body other) = false) := by show _ = _; unfold actA; simp only [Ac.op, Ac.n, Ac.m, Ac.at_, Ac.args]; simp [*]
          have t' : m ≠ 0 := by omega
          clear t2
          go_enter Tryz.func169, Tryz.ntmps169
          go_wp2_with fail
          go_ret
          exact ⟨ret_bool (by first | exact HR.out.symm | (rw [HR.out]; first | (simp; omega) | (simp [*]; done))), al2 _ _ _⟩
      · have HR : Hid (actA c (.mk 6 n m at_ args body other) = false) := by show _ = _; unfold actA; simp only [Ac.op, Ac.n, Ac.m, Ac.at_, Ac.args]; simp [*]
        have t' : n ≠ 0 := by omega
        clear t3
        go_enter Tryz.func169, Tryz.ntmps169
        go_wp2_with fail
        go_ret
        exact ⟨ret_bool (by first | exact HR.out.symm | (rw [HR.out]; first | (simp; omega) | (simp [*]; done))), al2 _ _ _⟩
    · have HR : Hid (actA c (.mk 6 n m at_ args body other) = false) := by show _ = _; unfold actA; simp only [Ac.op, Ac.n, Ac.m, Ac.at_, Ac.args]; simp [*]
      have t' : args.length ≠ 1 := by omega
      clear t4
      go_enter Tryz.func169, Tryz.ntmps169
      go_wp2_with fail
      go_ret
      exact ⟨ret_bool (by first | exact HR.out.symm | (rw [HR.out]; first | (simp; omega) | (simp [*]; done))), al2 _ _ _⟩
  by_cases o7 : op = 7
  · subst o7
    by_cases t4 : args.length = 1
    · by_cases t3 : n = 0
      · by_cases t2 : m = 0
        · by_cases t1 : at_ = 0
          · have HR : Hid (actA c (.mk 7 n m at_ args body other) = true) := by show _ = _; unfold actA; simp only [Ac.op, Ac.n, Ac.m, Ac.at_, Ac.args]; simp [*]
            go_enter Tryz.func169, Tryz.ntmps169
            go_wp2_with fail
            go_ret
            exact ⟨ret_bool (by first | exact HR.out.symm | (rw [HR.out]; first | (simp; omega) | (simp [*]; done))), al2 _ _ _⟩
          · have HR : Hid (actA c (.mk 7 n m at_ args body other) = false) := by show _ = _; unfold actA; simp only [Ac.op, Ac.n, Ac.m, Ac.at_, Ac.args]; simp [*]
            have t' : at_ ≠ 0 := by omega
            clear t1
            go_enter Tryz.func169, Tryz.ntmps169
            go_wp2_with fail
            go_ret
            exact ⟨ret_bool (by first | exact HR.out.symm | (rw [HR.out]; first | (simp; omega) | (simp [*]; done))), al2 _ _ _⟩
        · have HR : Hid (actA c (.mk 7 n m at_ args body other) = false) := by show _ = _; unfold actA; simp only [Ac.op, Ac.n, Ac.m, Ac.at_, Ac.args]; simp [*]
          have t' : m ≠ 0 := by omega
          clear t2
          go_enter Tryz.func169, Tryz.ntmps169
          go_wp2_with fail
          go_ret
          exact ⟨ret_bool (by first | exact HR.out.symm | (rw [HR.out]; first | (simp; omega) | (simp [*]; done))), al2 _ _ _⟩
      · have HR : Hid (actA c (.mk 7 n m at_ args body other) = false) := by show _ = _; unfold actA; simp only [Ac.op, Ac.n, Ac.m, Ac.at_, Ac.args]; simp [*]
        have t' : n ≠ 0 := by omega
        clear t3
        go_enter Tryz.func169, Tryz.ntmps169
        go_wp2_with fail
        go_ret
        exact ⟨ret_bool (by first | exact HR.out.symm | (rw [HR.out]; first | (simp; omega) | (simp [*]; done))), al2 _ _ _⟩
    · have HR : Hid (actA c (.mk 7 n m at_ args body other) = false) := by show _ = _; unfold actA; simp only [Ac.op, Ac.n, Ac.m, Ac.at_, Ac.args]; simp [*]
      have t' : args.length ≠ 1 := by omega
      clear t4
      go_enter Tryz.func169, Tryz.ntmps169
      go_wp2_with fail
      go_ret
      exact ⟨ret_bool (by first | exact HR.out.symm | (rw [HR.out]; first | (simp; omega) | (simp [*]; done))), al2 _ _ _⟩
  have HR : Hid (actA c (.mk op n m at_ args body other) = false) := by
    show _ = _; unfold actA; exact (if_neg o1).trans ((if_neg o2).trans ((if_neg o3).trans (if_neg (by show ¬ (4 ≤ op ∧ op ≤ 7); omega))))
  go_enter Tryz.func169, Tryz.ntmps169
  go_wp2_with fail
  go_ret
  exact ⟨ret_bool (by first | exact HR.out.symm | (rw [HR.out]; first | (simp; omega) | (simp [*]; done))), al2 _ _ _⟩
end Go.Proofs.YtndkhgakfodldaaGreatDoor
