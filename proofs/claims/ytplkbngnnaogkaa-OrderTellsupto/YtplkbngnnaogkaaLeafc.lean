/-
  The functions that tell signs and numbers answer what the plain mathematics says; the program's own one panics where the digits are no number.
-/
import Derived.Test.YtplkbngnnaogkaaPure
import Derived.Test.YtplkbngnnaogkaaShelf
import Derived.Test.YtplkbngnnaogkaaNum
namespace Go.Proofs.Ytplkbngnnaogkaa
open Go.RowKit

theorem byte_back (c : UInt8) : ((c.toNat : Int)).toNat.toUInt8 = c := by simp
set_option maxRecDepth 100000 in
set_option maxHeartbeats 400000 in
theorem isSign_any (s : ByteArray) (w : World) :
    Calls Try.prog 98 #[.string s] w fun e w' => e = .returned (.bool (Lx.signL s.data.toList)) ∧ w' = w := by
  by_cases h1 : s.size = 1
  · have h0 : 0 < s.size := by omega
    have HN : Hid (Lx.signL s.data.toList = decide (0 ≤ Lib.indexByte signsBA.data.toList s[0])) := by
      have := Lx.indexByte_sign s[0]
      exact (Lx.signL_one s h1).trans this.symm
    have hlen : ((s.size : Int) == 1) = true := by rw [beq_iff_eq]; omega
    clear h1
    go_enter Try.func98, Try.ntmps98
    go_wp2_with (go_at_call 101; refine (Try.strings_IndexByte signsBA _ _).mono ?_; rintro e w' ⟨rfl, rfl⟩)
    all_goals go_ret
    all_goals exact ⟨ret_bool (by rw [HN.out]; simp), rfl⟩
  · have HN : Hid (Lx.signL s.data.toList = false) := Lx.signL_other s h1
    have hlen : ((s.size : Int) == 1) = false := by rw [beq_eq_false_iff_ne]; omega
    clear h1
    go_enter Try.func98, Try.ntmps98
    go_wp2_with fail
    go_ret
    exact ⟨ret_bool HN.out.symm, rfl⟩

def errPanic : List PanicEntry := [{ v := .iface 24 (.int .i64 1), recovered := false }]
def numEnd (l : List UInt8) : Ending := if Lx.numOk l then .returned (.int .i64 (Lx.valL l)) else .panicked errPanic
theorem numEnd_yes {l : List UInt8} (h : Lx.numOk l = true) : numEnd l = .returned (.int .i64 (Lx.valL l)) := by unfold numEnd; rw [h]; rfl
theorem numEnd_no {l : List UInt8} (h : Lx.numOk l = false) : numEnd l = .panicked errPanic := by unfold numEnd; rw [h]; rfl

def strOf (l : List UInt8) : ByteArray := ⟨l.toArray⟩
theorem ret_str {a b : ByteArray} (h : a = b) : Ending.returned (.string a) = .returned (.string b) := by rw [h]
theorem strOf_list (l : List UInt8) : (strOf l).data.toList = l := by simp [strOf]
theorem strOf_back (s : ByteArray) : strOf s.data.toList = s := by simp [strOf]
theorem strOf_size (l : List UInt8) : (strOf l).size = l.length := by simp [strOf, ByteArray.size]
theorem strOf_append (a b : List UInt8) : strOf a ++ strOf b = strOf (a ++ b) := by
  apply ByteArray.ext
  simp [strOf]

def digL (n : Nat) : List UInt8 := [UInt8.ofNat (48 + n % 10)]
end Go.Proofs.Ytplkbngnnaogkaa
