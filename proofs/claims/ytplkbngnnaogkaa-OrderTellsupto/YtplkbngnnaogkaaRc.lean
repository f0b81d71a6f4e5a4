/-
  exprLook.
-/
import Derived.Test.YtplkbngnnaogkaaRba
import Derived.Test.YtplkbngnnaogkaaRbb
import Derived.Test.YtplkbngnnaogkaaRbc
import Derived.Test.YtplkbngnnaogkaaRbd
import Derived.Test.YtplkbngnnaogkaaRbe
import Derived.Test.YtplkbngnnaogkaaRbf
namespace Go.Proofs.Ytplkbngnnaogkaa
open Go.RowKit Go.Maps

theorem exprLook_step3 (A : Nat → Prop) (k : Nat) (op n : Int) (mod name : ByteArray) (l : List Ex) (aa : Option Addr) (cap : Nat) (deep : Int) (w : World) (hbd : l.length ≤ 17592186044416) (hd1 : 1 ≤ deep) (hd6 : deep ≤ 6)
    (HI : Hid (∀ (x : Ex) (aa : Option Addr) (cap : Nat) (w : World), DAt w A aa x.args.length (exsD x.args) → x.mod.size ≤ maxLen → x.name.size ≤ maxLen →
      Calls Try.prog 93 #[.agg #[.int .i64 x.op, .int .i64 x.n, .string x.mod, .string x.name, .slice aa x.args.length cap], .int .i64 3, .int .i64 (deep + 1)] w fun e w' => e = .returned (.bool (eL 3 k x)) ∧ Below w.heap.size w w'))
    (HD : Hid (DAt w A aa l.length (exsD l))) (HWm : Hid (mod.size ≤ maxLen)) (HWn : Hid (name.size ≤ maxLen)) :
    Calls Try.prog 93 #[.agg #[.int .i64 op, .int .i64 n, .string mod, .string name, .slice aa l.length cap], .int .i64 3, .int .i64 deep] w fun e w' => e = .returned (.bool (eL 3 (k + 1) (.mk op n mod name l))) ∧ Below w.heap.size w w' := by
  cases hR : inB op 3 5 with
  | false =>
    cases hm : mod.toList.isEmpty with
    | false => exact exprStep3a A k op n mod name l aa cap deep w hbd hd1 hd6 HI HD HWm HWn hR (Or.inl hm)
    | true =>
      cases hn : name.toList.isEmpty with
      | false => exact exprStep3a A k op n mod name l aa cap deep w hbd hd1 hd6 HI HD HWm HWn hR (Or.inr ⟨hm, hn⟩)
      | true =>
        by_cases ho : op = 1
        · exact exprStep3b A k op n mod name l aa cap deep w hbd hd1 hd6 HI HD HWm HWn hR hm hn ho
        · exact exprStep3c A k op n mod name l aa cap deep w hbd hd1 hd6 HI HD HWm HWn hR hm hn ho
  | true =>
    cases hf : fineB mod name with
    | false => exact exprStep3d A k op n mod name l aa cap deep w hbd hd1 hd6 HI HD HWm HWn hR hf
    | true => exact exprStep3e A k op n mod name l aa cap deep w hbd hd1 hd6 HI HD HWm HWn hR hf
set_option maxRecDepth 100000 in
set_option maxHeartbeats 800000 in
theorem exprLook_any (A : Nat → Prop) : ∀ (k : Nat), k ≤ 6 → ∀ (lv : Int), lv = 1 ∨ lv = 2 ∨ lv = 3 → ∀ (x : Ex) (aa : Option Addr) (cap : Nat) (deep : Int) (w : World), deep = 7 - (k : Int) → DAt w A aa x.args.length (exsD x.args) → x.mod.size ≤ maxLen → x.name.size ≤ maxLen →
    Calls Try.prog 93 #[.agg #[.int .i64 x.op, .int .i64 x.n, .string x.mod, .string x.name, .slice aa x.args.length cap], .int .i64 lv, .int .i64 deep] w fun e w' => e = .returned (.bool (eL lv k x)) ∧ Below w.heap.size w w'
  | 0, _, lv, _, x, aa, cap, deep, w, hd, _, _, _ => by
    subst hd
    have HR : Hid (eL lv 0 x = (lv == 2)) := by show _ = _; simp [eL]
    go_enter Try.func93, Try.ntmps93
    go_wp2_with fail
    go_ret
    exact ⟨ret_bool HR.out.symm, al1 _ _⟩
  | k + 1, hk, lv, hlv, .mk op n mod name l, aa, cap, deep, w, hd, hD, wm, wna => by
    simp only [Ex.op, Ex.n, Ex.mod, Ex.name, Ex.args] at hD wm wna ⊢
    have HI : Hid (∀ (x : Ex) (aa : Option Addr) (cap : Nat) (w : World), DAt w A aa x.args.length (exsD x.args) → x.mod.size ≤ maxLen → x.name.size ≤ maxLen →
      Calls Try.prog 93 #[.agg #[.int .i64 x.op, .int .i64 x.n, .string x.mod, .string x.name, .slice aa x.args.length cap], .int .i64 lv, .int .i64 (deep + 1)] w fun e w' => e = .returned (.bool (eL lv k x)) ∧ Below w.heap.size w w') :=
      fun x aa cap w h1 h2 h3 => exprLook_any A k (by omega) lv hlv x aa cap (deep + 1) w (by omega) h1 h2 h3
    rcases hlv with rfl | rfl | rfl
    · exact exprStep1 A k op n mod name l aa cap deep w hD.bound (by omega) (by omega) HI hD wm wna
    · exact exprStep2 A k op n mod name l aa cap deep w hD.bound (by omega) (by omega) HI hD wm wna
    · exact exprLook_step3 A k op n mod name l aa cap deep w hD.bound (by omega) (by omega) HI hD wm wna
end Go.Proofs.Ytplkbngnnaogkaa
