/-
  The machine's smallest functions: an end that is thrown, what must be so, and the reckoning of two numbers.
-/
import Derived.Test.YtpahhhhfhnpmjaaProg
import Derived.Test.YtpahhhhfhnpmjaaPure
import Derived.WalkKit
import Derived.WalkSpells
import Derived.WalkLawsBesides
import Derived.Deep.QuietTactic
import Derived.BigQuiet
import Derived.Handy
namespace Go.Proofs.Ytpahhhhfhnpmjaa
open Go.RowKit

theorem ret_bool {a b : Bool} (h : a = b) : Ending.returned (.bool a) = .returned (.bool b) := by rw [h]
theorem ret_int {k : IntKind} {a b : Int} (h : a = b) : Ending.returned (.int k a) = .returned (.int k b) := by rw [h]
theorem ret_ib {a b : Int} {x y : Bool} (h1 : a = b) (h2 : x = y) : Ending.returned (.tuple #[.int .i64 a, .bool x]) = .returned (.tuple #[.int .i64 b, .bool y]) := by rw [h1, h2]

def thrown (e : Int) : List PanicEntry := [{ v := .iface 3 (.int .i64 e), recovered := false }]
theorem stop_any (R : Nat) (e : Int) (x : Value) (w : World) (hc : w.cell? ⟨R, 12, none⟩ = some x) (hf : w.frozen? ⟨R, 12, none⟩ = false) :
    Calls Try.prog 44 #[.pointer (some ⟨R, 0, none⟩), .int .i64 e] w fun en w' => en = .panicked (thrown e) ∧ w' = w.setCell ⟨R, 12, none⟩ (.int .i64 e) := by
  go_enter Try.func44, Try.ntmps44
  go_wp2_with fail
  exact ⟨rfl, rfl, rfl⟩
theorem must_yes (p : Value) (b : Bool) (w : World) (hb : b = true) :
    Calls Try.prog 45 #[p, .bool b] w fun en w' => en = .returned (.tuple #[]) ∧ w' = w := by
  subst hb
  go_enter Try.func45, Try.ntmps45
  go_wp2_with fail
  go_returns
  exact ⟨rfl, rfl⟩
theorem must_no (R : Nat) (b : Bool) (x : Value) (w : World) (hb : b = false) (hc : w.cell? ⟨R, 12, none⟩ = some x) (hf : w.frozen? ⟨R, 12, none⟩ = false) :
    Calls Try.prog 45 #[.pointer (some ⟨R, 0, none⟩), .bool b] w fun en w' => en = .panicked (thrown 6) ∧ w' = w.setCell ⟨R, 12, none⟩ (.int .i64 6) := by
  subst hb
  go_enter Try.func45, Try.ntmps45
  go_wp2_with fail
  refine (stop_any R 6 x _ hc hf).mono ?_
  rintro e w' ⟨rfl, rfl⟩
  go_wp2_with fail
  exact ⟨rfl, rfl, rfl⟩
theorem truth_any (b : Bool) (w : World) :
    Calls Try.prog 39 #[.bool b] w fun en w' => en = .returned (.int .i64 (Mc.truth b)) ∧ w' = w := by
  cases b
  all_goals
    go_enter Try.func39, Try.ntmps39
    go_wp2_with fail
    go_ret
    exact ⟨rfl, rfl⟩
theorem isOp_any (op : Int) (w : World) :
    Calls Try.prog 42 #[.int .i64 op] w fun en w' => en = .returned (.bool (Mc.isOp op)) ∧ w' = w := by
  go_enter Try.func42, Try.ntmps42
  go_wp2
  all_goals go_ret
  · exact ⟨ret_bool (by simp [Mc.isOp, *]), rfl⟩
  · exact ⟨ret_bool (by simp [Mc.isOp]; omega), rfl⟩

def reckV : Option Int → Value
  | some n => .tuple #[.int .i64 n, .bool true]
  | none => .tuple #[.int .i64 0, .bool false]
def part (op a b : Int) : Option Int := if b = 0 then none else if op = 12 then some (wrap64 (a.tdiv b)) else if op = 13 then some (a.tmod b) else none
theorem parted_any (op a b : Int) (w : World) :
    Calls Try.prog 43 #[.int .i64 op, .int .i64 a, .int .i64 b] w fun en w' => en = .returned (reckV (part op a b)) ∧ w' = w := by
  by_cases hb : b = 0
  · have HP : Hid (part op a b = none) := if_pos hb
    subst hb
    go_enter Try.func43, Try.ntmps43
    go_wp2_with fail
    go_ret2
    exact ⟨by rw [HP.out]; rfl, rfl⟩
  have hb' : (b == 0) = false := beq_eq_false_iff_ne.2 hb
  by_cases h12 : op = 12
  · have HP : Hid (part op a b = some (wrap64 (a.tdiv b))) := (if_neg hb).trans (if_pos h12)
    subst h12
    go_enter Try.func43, Try.ntmps43
    go_wp2_with fail
    go_ret2
    exact ⟨by rw [HP.out]; rfl, rfl⟩
  have h12' : (op == 12) = false := beq_eq_false_iff_ne.2 h12
  by_cases h13 : op = 13
  · have HP : Hid (part op a b = some (a.tmod b)) := (if_neg hb).trans ((if_neg h12).trans (if_pos h13))
    subst h13
    go_enter Try.func43, Try.ntmps43
    go_wp2_with fail
    go_ret2
    exact ⟨by rw [HP.out]; rfl, rfl⟩
  have h13' : (op == 13) = false := beq_eq_false_iff_ne.2 h13
  have HP : Hid (part op a b = none) := (if_neg hb).trans ((if_neg h12).trans (if_neg h13))
  clear hb h12 h13
  go_enter Try.func43, Try.ntmps43
  go_wp2_with fail
  go_ret2
  exact ⟨by rw [HP.out]; rfl, rfl⟩

theorem reckon_any (op a b : Int) (w : World) :
    Calls Try.prog 34 #[.int .i64 op, .int .i64 a, .int .i64 b] w fun en w' => en = .returned (reckV (Mc.reck op a b)) ∧ w' = w := by
  have HP : Hid (∀ w : World, Calls Try.prog 43 #[.int .i64 op, .int .i64 a, .int .i64 b] w fun en w' => en = .returned (reckV (part op a b)) ∧ w' = w) := fun w => parted_any op a b w
  by_cases h9 : op = 9
  · subst h9
    go_enter Try.func34, Try.ntmps34
    go_wp2_with fail
    go_ret2
    exact ⟨rfl, rfl⟩
  by_cases h10 : op = 10
  · subst h10
    go_enter Try.func34, Try.ntmps34
    go_wp2_with fail
    go_ret2
    exact ⟨rfl, rfl⟩
  by_cases h11 : op = 11
  · subst h11
    go_enter Try.func34, Try.ntmps34
    go_wp2_with fail
    go_ret2
    exact ⟨rfl, rfl⟩
  by_cases h14 : op = 14
  · subst h14
    go_enter Try.func34, Try.ntmps34
    go_wp2_with (go_at_call 39; refine (truth_any _ _).mono ?_; rintro e w' ⟨rfl, rfl⟩)
    go_ret2
    exact ⟨rfl, rfl⟩
  by_cases h15 : op = 15
  · subst h15
    go_enter Try.func34, Try.ntmps34
    go_wp2_with (go_at_call 39; refine (truth_any _ _).mono ?_; rintro e w' ⟨rfl, rfl⟩)
    go_ret2
    exact ⟨rfl, rfl⟩
  have HR : Hid (Mc.reck op a b = part op a b) := by
    show Mc.reck op a b = _
    unfold Mc.reck
    rw [if_neg h9, if_neg h10, if_neg h11, if_neg h14, if_neg h15]
    rfl
  have b9 : (op == 9) = false := beq_eq_false_iff_ne.2 h9
  have b10 : (op == 10) = false := beq_eq_false_iff_ne.2 h10
  have b11 : (op == 11) = false := beq_eq_false_iff_ne.2 h11
  have b14 : (op == 14) = false := beq_eq_false_iff_ne.2 h14
  have b15 : (op == 15) = false := beq_eq_false_iff_ne.2 h15
  clear h9 h10 h11 h14 h15
  cases hp : part op a b with
  | none =>
    rw [hp] at HP HR
    clear hp
    go_enter Try.func34, Try.ntmps34
    go_wp2_with fail
    refine (HP.out _).mono ?_
    rintro e w' ⟨rfl, rfl⟩
    simp only [reckV]
    go_wp2_with fail
    go_ret2
    exact ⟨by rw [HR.out]; rfl, rfl⟩
  | some n =>
    rw [hp] at HP HR
    clear hp
    go_enter Try.func34, Try.ntmps34
    go_wp2_with fail
    refine (HP.out _).mono ?_
    rintro e w' ⟨rfl, rfl⟩
    simp only [reckV]
    go_wp2_with fail
    go_ret2
    exact ⟨by rw [HR.out]; rfl, rfl⟩

theorem few_any (n : Int) (w : World) :
    Calls Try.prog 12 #[.int .i64 n] w fun en w' => en = .returned (.int .i64 (if 16384 < n then 16384 else n)) ∧ w' = w := by
  by_cases h : 16384 < n
  · go_enter Try.func12, Try.ntmps12
    go_wp2_with fail
    go_ret
    exact ⟨rfl, rfl⟩
  · go_enter Try.func12, Try.ntmps12
    go_wp2_with fail
    go_ret
    exact ⟨rfl, rfl⟩

end Go.Proofs.Ytpahhhhfhnpmjaa
