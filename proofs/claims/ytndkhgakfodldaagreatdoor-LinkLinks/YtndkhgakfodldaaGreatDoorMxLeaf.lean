import Derived.Test.YtndkhgakfodldaaGreatDoorProg
import Derived.Test.YtndkhgakfodldaaGreatDoorMxPure
import Derived.WalkSpells
import Derived.WalkLawsBesides
import Derived.BigQuiet
import Derived.Handy
open Go.Proofs.Tryz
namespace Go.Proofs.YtndkhgakfodldaaGreatDoor
namespace Mx
open Go.RowKit
theorem ret_bool {a b:Bool} (h:a=b):Ending.returned (.bool a) = .returned (.bool b):=by rw [h]
theorem ret_int {k:IntKind} {a b:Int} (h:a=b):Ending.returned (.int k a) = .returned (.int k b):=by rw [h]
def kr (e:Int):List PanicEntry:=[{ v:=.iface 3 (.int .i64 e),recovered:=false }]
theorem stop_any (R:Nat) (e:Int) (x:Value) (w:World) (a1:w.cell? ⟨R,12,none⟩=some x) (ag:w.frozen? ⟨R,12,none⟩=false) :
 Calls prog 180 #[.pointer (some ⟨R,0,none⟩),.int .i64 e] w fun d r=>d = .panicked (kr e)/\r=w.setCell ⟨R,12,none⟩ (.int .i64 e):=by
 go_enter func180,ntmps180;go_wp2_with fail;exact ⟨rfl,rfl,rfl⟩
theorem lc (p:Value) (b:Bool) (w:World) (F:b=true) :
 Calls prog 181 #[p,.bool b] w fun d r=>d = .returned (.tuple #[])/\r=w:=by
 subst F;go_enter func181,ntmps181;go_wp2_with fail
 go_returns
 exact ⟨rfl,rfl⟩
theorem qg (R:Nat) (b:Bool) (x:Value) (w:World) (F:b=false) (a1:w.cell? ⟨R,12,none⟩=some x) (ag:w.frozen? ⟨R,12,none⟩=false) :
 Calls prog 181 #[.pointer (some ⟨R,0,none⟩),.bool b] w fun d r=>d = .panicked (kr 6)/\r=w.setCell ⟨R,12,none⟩ (.int .i64 6):=by
 subst F;go_enter func181,ntmps181;go_wp2_with fail;refine (stop_any R 6 x _ a1 ag).mono ?_;rintro e r ⟨rfl,rfl⟩;go_wp2_with fail;exact ⟨rfl,rfl,rfl⟩
theorem tC (b:Bool) (w:World) :
 Calls prog 227 #[.bool b] w fun d r=>d = .returned (.int .i64 (Mc.truth b))/\r=w:=by
 cases b
 all_goals
  go_enter func227,ntmps227;go_wp2_with fail;go_ret;exact ⟨rfl,rfl⟩
theorem zM (p:Int) (w:World) :
 Calls prog 277 #[.int .i64 p] w fun d r=>d = .returned (.bool (Mc.isOp p))/\r=w:=by
 go_enter func277,ntmps277
 go_wp2
 all_goals go_ret
 . exact ⟨ret_bool (by simp [Mc.isOp, *]),rfl⟩
 . exact ⟨ret_bool (by simp [Mc.isOp];omega),rfl⟩
def reckV:Option Int->Value
 | some n=>.tuple #[.int .i64 n,.bool true]
 | none=>.tuple #[.int .i64 0,.bool false]
def part (p a b:Int):Option Int:=if b=0 then none else if p=12 then some (wrap64 (a.tdiv b)) else if p=13 then some (a.tmod b) else none
theorem parted_any (p a b:Int) (w:World) :
 Calls prog 292 #[.int .i64 p,.int .i64 a,.int .i64 b] w fun d r=>d = .returned (reckV (part p a b))/\r=w:=by
 by_cases F:b=0
 . have A:Hid (part p a b=none):=if_pos F
   subst F;go_enter func292,ntmps292;go_wp2_with fail;go_ret2;exact ⟨by rw [A.out];rfl,rfl⟩
 have aJ:(b == 0)=false:=beq_eq_false_iff_ne.2 F
 by_cases c:p=12
 . have A:Hid (part p a b=some (wrap64 (a.tdiv b))):=(if_neg F).trans (if_pos c)
   subst c;go_enter func292,ntmps292;go_wp2_with fail;go_ret2;exact ⟨by rw [A.out];rfl,rfl⟩
 have g:(p == 12)=false:=beq_eq_false_iff_ne.2 c
 by_cases e:p=13
 . have A:Hid (part p a b=some (a.tmod b)):=(if_neg F).trans ((if_neg c).trans (if_pos e))
   subst e;go_enter func292,ntmps292;go_wp2_with fail;go_ret2;exact ⟨by rw [A.out];rfl,rfl⟩
 have f:(p == 13)=false:=beq_eq_false_iff_ne.2 e;have A:Hid (part p a b=none):=(if_neg F).trans ((if_neg c).trans (if_neg e));clear F c e;go_enter func292,ntmps292;go_wp2_with fail;go_ret2;exact ⟨by rw [A.out];rfl,rfl⟩
theorem EH (p a b:Int) (w:World) :
 Calls prog 278 #[.int .i64 p,.int .i64 a,.int .i64 b] w fun d r=>d = .returned (reckV (Mc.reck p a b))/\r=w:=by
 have A:Hid (∀ w:World,Calls prog 292 #[.int .i64 p,.int .i64 a,.int .i64 b] w fun d r=>d = .returned (reckV (part p a b))/\r=w):=fun w=>parted_any p a b w
 by_cases j:p=9
 . subst j
   go_enter func278,ntmps278;go_wp2_with fail;go_ret2;exact ⟨rfl,rfl⟩
 by_cases B:p=10
 . subst B
   go_enter func278,ntmps278;go_wp2_with fail;go_ret2;exact ⟨rfl,rfl⟩
 by_cases f:p=11
 . subst f
   go_enter func278,ntmps278;go_wp2_with fail;go_ret2;exact ⟨rfl,rfl⟩
 by_cases a2:p=14
 . subst a2
   go_enter func278,ntmps278
   go_wp2_with (go_at_call 227;refine (tC _ _).mono ?_;rintro e r ⟨rfl,rfl⟩)
   go_ret2;exact ⟨rfl,rfl⟩
 by_cases c:p=15
 . subst c
   go_enter func278,ntmps278
   go_wp2_with (go_at_call 227;refine (tC _ _).mono ?_;rintro e r ⟨rfl,rfl⟩)
   go_ret2;exact ⟨rfl,rfl⟩
 have z:Hid (Mc.reck p a b=part p a b):=by
  show Mc.reck p a b=_;unfold Mc.reck;rw [if_neg j,if_neg B,if_neg f,if_neg a2,if_neg c]
  rfl
 have i:(p == 9)=false:=beq_eq_false_iff_ne.2 j;have g:(p == 10)=false:=beq_eq_false_iff_ne.2 B;have k:(p == 11)=false:=beq_eq_false_iff_ne.2 f;have h:(p == 14)=false:=beq_eq_false_iff_ne.2 a2;have l:(p == 15)=false:=beq_eq_false_iff_ne.2 c;clear j B f a2 c
 cases az:part p a b with
 | none=>
   rw [az] at A z;clear az;go_enter func278,ntmps278;go_wp2_with fail;refine (A _).mono ?_;rintro e r ⟨rfl,rfl⟩;simp only [reckV];go_wp2_with fail;go_ret2;exact ⟨by rw [z.out];rfl,rfl⟩
 | some n=>
   rw [az] at A z;clear az;go_enter func278,ntmps278;go_wp2_with fail;refine (A _).mono ?_;rintro e r ⟨rfl,rfl⟩;simp only [reckV];go_wp2_with fail;go_ret2;exact ⟨by rw [z.out];rfl,rfl⟩
end Mx
end Go.Proofs.YtndkhgakfodldaaGreatDoor
