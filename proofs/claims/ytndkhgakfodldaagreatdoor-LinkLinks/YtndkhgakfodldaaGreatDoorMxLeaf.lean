import Derived.Test.YtndkhgakfodldaaGreatDoorProg
import Derived.Test.YtndkhgakfodldaaGreatDoorMxPure
import Derived.WalkSpells
import Derived.WalkLawsBesides
import Derived.BigQuiet
import Derived.Handy
namespace Go.Proofs.YtndkhgakfodldaaGreatDoor
namespace Mx
open Go.RowKit
theorem ret_bool {a b:Bool} (h:a=b):Ending.returned (.bool a) = .returned (.bool b):=by rw [h]
theorem ret_int {k:IntKind} {a b:Int} (h:a=b):Ending.returned (.int k a) = .returned (.int k b):=by rw [h]
def zdr (e:Int):List PanicEntry:=[{ v:=.iface 3 (.int .i64 e),recovered:=false }]
theorem stop_any (R:Nat) (e:Int) (x:Value) (w:World) (hc:w.cell? ⟨R,12,none⟩=some x) (hf:w.frozen? ⟨R,12,none⟩=false) :
 Calls Tryz.prog 180 #[.pointer (some ⟨R,0,none⟩),.int .i64 e] w fun en w'=>en = .panicked (zdr e)/\w'=w.setCell ⟨R,12,none⟩ (.int .i64 e):=by
 go_enter Tryz.func180,Tryz.ntmps180;go_wp2_with fail;exact ⟨rfl,rfl,rfl⟩
theorem zbx (p:Value) (b:Bool) (w:World) (hb:b=true) :
 Calls Tryz.prog 181 #[p,.bool b] w fun en w'=>en = .returned (.tuple #[])/\w'=w:=by
 subst hb;go_enter Tryz.func181,Tryz.ntmps181;go_wp2_with fail
 go_returns
 exact ⟨rfl,rfl⟩
theorem zgs (R:Nat) (b:Bool) (x:Value) (w:World) (hb:b=false) (hc:w.cell? ⟨R,12,none⟩=some x) (hf:w.frozen? ⟨R,12,none⟩=false) :
 Calls Tryz.prog 181 #[.pointer (some ⟨R,0,none⟩),.bool b] w fun en w'=>en = .panicked (zdr 6)/\w'=w.setCell ⟨R,12,none⟩ (.int .i64 6):=by
 subst hb;go_enter Tryz.func181,Tryz.ntmps181;go_wp2_with fail;refine (stop_any R 6 x _ hc hf).mono ?_;rintro e w' ⟨rfl,rfl⟩;go_wp2_with fail;exact ⟨rfl,rfl,rfl⟩
theorem zg3 (b:Bool) (w:World) :
 Calls Tryz.prog 227 #[.bool b] w fun en w'=>en = .returned (.int .i64 (Mc.truth b))/\w'=w:=by
 cases b
 all_goals
  go_enter Tryz.func227,Tryz.ntmps227;go_wp2_with fail;go_ret;exact ⟨rfl,rfl⟩
theorem zs4 (op:Int) (w:World) :
 Calls Tryz.prog 277 #[.int .i64 op] w fun en w'=>en = .returned (.bool (Mc.isOp op))/\w'=w:=by
 go_enter Tryz.func277,Tryz.ntmps277
 go_wp2
 all_goals go_ret
 . exact ⟨ret_bool (by simp [Mc.isOp, *]),rfl⟩
 . exact ⟨ret_bool (by simp [Mc.isOp];omega),rfl⟩
def reckV:Option Int->Value
 | some n=>.tuple #[.int .i64 n,.bool true]
 | none=>.tuple #[.int .i64 0,.bool false]
def part (op a b:Int):Option Int:=if b=0 then none else if op=12 then some (wrap64 (a.tdiv b)) else if op=13 then some (a.tmod b) else none
theorem parted_any (op a b:Int) (w:World) :
 Calls Tryz.prog 292 #[.int .i64 op,.int .i64 a,.int .i64 b] w fun en w'=>en = .returned (reckV (part op a b))/\w'=w:=by
 by_cases hb:b=0
 . have HP:Hid (part op a b=none):=if_pos hb
   subst hb;go_enter Tryz.func292,Tryz.ntmps292;go_wp2_with fail;go_ret2;exact ⟨by rw [HP.out];rfl,rfl⟩
 have AZ:(b == 0)=false:=beq_eq_false_iff_ne.2 hb
 by_cases E5:op=12
 . have HP:Hid (part op a b=some (wrap64 (a.tdiv b))):=(if_neg hb).trans (if_pos E5)
   subst E5;go_enter Tryz.func292,Tryz.ntmps292;go_wp2_with fail;go_ret2;exact ⟨by rw [HP.out];rfl,rfl⟩
 have ML:(op == 12)=false:=beq_eq_false_iff_ne.2 E5
 by_cases EJ:op=13
 . have HP:Hid (part op a b=some (a.tmod b)):=(if_neg hb).trans ((if_neg E5).trans (if_pos EJ))
   subst EJ;go_enter Tryz.func292,Tryz.ntmps292;go_wp2_with fail;go_ret2;exact ⟨by rw [HP.out];rfl,rfl⟩
 have MK:(op == 13)=false:=beq_eq_false_iff_ne.2 EJ;have HP:Hid (part op a b=none):=(if_neg hb).trans ((if_neg E5).trans (if_neg EJ));clear hb E5 EJ;go_enter Tryz.func292,Tryz.ntmps292;go_wp2_with fail;go_ret2;exact ⟨by rw [HP.out];rfl,rfl⟩
theorem zum (op a b:Int) (w:World) :
 Calls Tryz.prog 278 #[.int .i64 op,.int .i64 a,.int .i64 b] w fun en w'=>en = .returned (reckV (Mc.reck op a b))/\w'=w:=by
 have HP:Hid (∀ w:World,Calls Tryz.prog 292 #[.int .i64 op,.int .i64 a,.int .i64 b] w fun en w'=>en = .returned (reckV (part op a b))/\w'=w):=fun w=>parted_any op a b w
 by_cases h9:op=9
 . subst h9
   go_enter Tryz.func278,Tryz.ntmps278;go_wp2_with fail;go_ret2;exact ⟨rfl,rfl⟩
 by_cases DG:op=10
 . subst DG
   go_enter Tryz.func278,Tryz.ntmps278;go_wp2_with fail;go_ret2;exact ⟨rfl,rfl⟩
 by_cases KY:op=11
 . subst KY
   go_enter Tryz.func278,Tryz.ntmps278;go_wp2_with fail;go_ret2;exact ⟨rfl,rfl⟩
 by_cases JC:op=14
 . subst JC
   go_enter Tryz.func278,Tryz.ntmps278
   go_wp2_with (go_at_call 227;refine (zg3 _ _).mono ?_;rintro e w' ⟨rfl,rfl⟩)
   go_ret2;exact ⟨rfl,rfl⟩
 by_cases GY:op=15
 . subst GY
   go_enter Tryz.func278,Tryz.ntmps278
   go_wp2_with (go_at_call 227;refine (zg3 _ _).mono ?_;rintro e w' ⟨rfl,rfl⟩)
   go_ret2;exact ⟨rfl,rfl⟩
 have HR:Hid (Mc.reck op a b=part op a b):=by
  show Mc.reck op a b=_;unfold Mc.reck;rw [if_neg h9,if_neg DG,if_neg KY,if_neg JC,if_neg GY]
  rfl
 have b9:(op == 9)=false:=beq_eq_false_iff_ne.2 h9;have TP:(op == 10)=false:=beq_eq_false_iff_ne.2 DG;have TO:(op == 11)=false:=beq_eq_false_iff_ne.2 KY;have TN:(op == 14)=false:=beq_eq_false_iff_ne.2 JC;have TM:(op == 15)=false:=beq_eq_false_iff_ne.2 GY;clear h9 DG KY JC GY
 cases hp:part op a b with
 | none=>
   rw [hp] at HP HR;clear hp;go_enter Tryz.func278,Tryz.ntmps278;go_wp2_with fail;refine (HP.out _).mono ?_;rintro e w' ⟨rfl,rfl⟩;simp only [reckV];go_wp2_with fail;go_ret2;exact ⟨by rw [HR.out];rfl,rfl⟩
 | some n=>
   rw [hp] at HP HR;clear hp;go_enter Tryz.func278,Tryz.ntmps278;go_wp2_with fail;refine (HP.out _).mono ?_;rintro e w' ⟨rfl,rfl⟩;simp only [reckV];go_wp2_with fail;go_ret2;exact ⟨by rw [HR.out];rfl,rfl⟩
end Mx
end Go.Proofs.YtndkhgakfodldaaGreatDoor
