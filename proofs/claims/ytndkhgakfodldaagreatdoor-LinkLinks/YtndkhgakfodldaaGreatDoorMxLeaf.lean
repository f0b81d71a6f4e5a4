import Derived.Test.YtndkhgakfodldaaGreatDoorProg
import Derived.Test.YtndkhgakfodldaaGreatDoorMxPure
import Derived.WalkSpells
import Derived.WalkLawsBesides
import Derived.BigQuiet
import Derived.Handy
namespace Go.Proofs.YtndkhgakfodldaaGreatDoor
theorem fA{P:Prop}(h:P:=by
 intro e w1 he
 rcases he.parts with ⟨u,s1,HR,rfl,Hm⟩ | ⟨s1,HR,rfl,Hm⟩<;>clear he<;>simp only [za7]
 . go_wp2_with fail
   go_returns
   exact zas.ok (HP.out.trans HR.out) rfl Hm.out
 . go_wp2_with fail
   exact ⟨rfl,zas.of_stop (HP.out.trans HR.out) Hm.out⟩):P:=h
theorem fH{P:Prop}(h:P:=by
 intro e w2 he
 rcases he.parts with ⟨u,s2,HR,rfl,C2⟩ | ⟨s2,HR,rfl,C2⟩<;>clear he<;>simp only [za7]
 . go_wp2_with fail
   go_returns
   exact zas.ok (Bh.out.trans HR.out) rfl C2.out
 . go_wp2_with fail
   exact ⟨rfl,zas.of_stop (Bh.out.trans HR.out) C2.out⟩):P:=h
theorem fT{P:Prop}(h:P:=by
 go_wp2_with fail
 exact ⟨rfl,zas.of_stop (HP.out.trans (zba _ HR.out)) Hm.out⟩):P:=h
theorem fU{P:Prop}(h:P:=by
 rintro e w2 ⟨rfl,hm⟩;go_wp2_with fail;exact ⟨rfl,zas.stop HP.out rfl hm⟩):P:=h
theorem gk{P:Prop}(h:P:=by
 have HP:Hid (Mc.getL l x s = .stop { s with en:=6 }):=if_neg eU
 clear hc;generalize l.length=n at *;go_enter Tryz.func222,Tryz.ntmps222;go_wp2_with fail;refine (zhu R _ _ _ aO D6 (hf 12)).mono ?_;rintro e w' ⟨rfl,rfl⟩;go_wp2_with fail;exact ⟨rfl,zas.stop HP.out rfl ⟨_,_,HM.out.setEn 6⟩⟩):P:=h
theorem gq{P:Prop}(h:P:=by
 go_wp2_with fail
 go_returns
 exact zas.ok (HP.out.trans ((bind_ok _ An.out).trans Aq.out)) rfl DJ.out):P:=h
theorem gt{P:Prop}(h:P:=by
 go_enter Tryz.func109,Tryz.ntmps109;go_wp2_with fail;refine (HC.out _ (HT.out.later ((Below.refl _ _).alloc (Nat.le_refl _) _))).mono ?_;rintro e w1 ⟨rfl,hb⟩;go_wp2_with fail;go_ret;exact ⟨ret_int Da.out.symm,((Below.refl _ _).alloc (Nat.le_refl _) _).trans (hb.mono aB)⟩):P:=h
theorem gu{P:Prop}(h:P:=by
 go_enter Tryz.func109,Tryz.ntmps109;go_wp2_with fail;refine (HC.out _ (HT.out.later ((Below.refl _ _).alloc (Nat.le_refl _) _))).mono ?_;rintro e w1 ⟨rfl,hb⟩;go_wp2_with fail;go_ret;exact ⟨ret_int HF.out.symm,((Below.refl _ _).alloc (Nat.le_refl _) _).trans (hb.mono aB)⟩):P:=h
theorem gO{P:Prop}(h:P:=by
 rw [hp] at HP HR;clear hp;go_enter Tryz.func278,Tryz.ntmps278;go_wp2_with fail;refine (HP.out _).mono ?_;rintro e w' ⟨rfl,rfl⟩;simp only [reckV];go_wp2_with fail;go_ret2;exact ⟨by rw [HR.out];rfl,rfl⟩):P:=h
theorem im{P:Prop}(h:P:=by
 go_enter Tryz.func224,Tryz.ntmps224;go_wp2_with fail;refine (zhu R _ _ _ aO D6 hf).mono ?_;rintro e w' ⟨rfl,rfl⟩;go_wp2_with fail;exact ⟨rfl,rfl,rfl⟩):P:=h
theorem ip{P:Prop}(h:P:=by
 go_enter Tryz.func278,Tryz.ntmps278
 go_wp2_with (go_at_call 227;refine (zid _ _).mono ?_;rintro e w' ⟨rfl,rfl⟩)
 go_ret2;exact ⟨rfl,rfl⟩):P:=h
theorem iq{P:Prop}(h:P:=by
 go_enter Tryz.func278,Tryz.ntmps278;go_wp2_with fail;go_ret2;exact ⟨rfl,rfl⟩):P:=h
theorem iK{P:Prop}(h:P:=by
 go_wp2_with fail;go_ret;exact ⟨ret_int HF.out.symm,HB.out⟩):P:=h
theorem iR{P:Prop}(h:P:=by
 go_ret2;exact ⟨by rw [HP.out];rfl,rfl⟩):P:=h
theorem jp{P:Prop}(h:P:=by
 go_wp2_with fail
 go_returns
 exact zas.ok HP.out rfl ⟨_,_,HM.out⟩):P:=h
theorem jr{P:Prop}(h:P:=by
 go_wp2_with fail;go_ret;exact ⟨ret_int HF.out.symm,HB.out.alloc HB.out.size _⟩):P:=h
theorem ju{P:Prop}(h:P:=by
 rintro e w2 ⟨rfl,hm⟩;go_wp2_with fail;exact ⟨rfl,zas.stop BQ.out rfl hm⟩):P:=h
theorem jJ{P:Prop}(h:P:=by
 go_wp2_with fail
 exact ⟨rfl,zas.of_stop (zba _ HR.out) Hm.out⟩):P:=h
namespace Mx
open Go.RowKit
theorem ret_bool {a b:Bool} (h:a=b):Ending.returned (.bool a) = .returned (.bool b):=by rw [h]
theorem ret_int {k:IntKind} {a b:Int} (h:a=b):Ending.returned (.int k a) = .returned (.int k b):=by rw [h]
def zei (e:Int):List PanicEntry:=[{ v:=.iface 3 (.int .i64 e),recovered:=false }]
theorem stop_any (R:Nat) (e:Int) (x:Value) (w:World) (hc:w.cell? ⟨R,12,none⟩=some x) (hf:w.frozen? ⟨R,12,none⟩=false) :
 Calls Tryz.prog 180 #[.pointer (some ⟨R,0,none⟩),.int .i64 e] w fun en w'=>en = .panicked (zei e)/\w'=w.setCell ⟨R,12,none⟩ (.int .i64 e):=by
 go_enter Tryz.func180,Tryz.ntmps180;go_wp2_with fail;exact ⟨rfl,rfl,rfl⟩
theorem zb9 (p:Value) (b:Bool) (w:World) (hb:b=true) :
 Calls Tryz.prog 181 #[p,.bool b] w fun en w'=>en = .returned (.tuple #[])/\w'=w:=by
 subst hb;go_enter Tryz.func181,Tryz.ntmps181;go_wp2_with fail
 go_returns
 exact ⟨rfl,rfl⟩
theorem zhu (R:Nat) (b:Bool) (x:Value) (w:World) (hb:b=false) (hc:w.cell? ⟨R,12,none⟩=some x) (hf:w.frozen? ⟨R,12,none⟩=false) :
 Calls Tryz.prog 181 #[.pointer (some ⟨R,0,none⟩),.bool b] w fun en w'=>en = .panicked (zei 6)/\w'=w.setCell ⟨R,12,none⟩ (.int .i64 6):=by
 subst hb;go_enter Tryz.func181,Tryz.ntmps181;go_wp2_with fail;refine (stop_any R 6 x _ hc hf).mono ?_;rintro e w' ⟨rfl,rfl⟩;go_wp2_with fail;exact ⟨rfl,rfl,rfl⟩
theorem zid (b:Bool) (w:World) :
 Calls Tryz.prog 227 #[.bool b] w fun en w'=>en = .returned (.int .i64 (Mc.truth b))/\w'=w:=by
 cases b
 all_goals
  go_enter Tryz.func227,Tryz.ntmps227;go_wp2_with fail;go_ret;exact ⟨rfl,rfl⟩
theorem zu2 (op:Int) (w:World) :
 Calls Tryz.prog 277 #[.int .i64 op] w fun en w'=>en = .returned (.bool (Mc.isOp op))/\w'=w:=by
 go_enter Tryz.func277,Tryz.ntmps277
 go_wp2
 all_goals go_ret
 . exact ⟨ret_bool (by simp [Mc.isOp, *]),rfl⟩
 . exact ⟨ret_bool (by simp [Mc.isOp];omega),rfl⟩
def reckV:Option Int->Value
 | some n=>.tuple #[.int .i64 n,.bool true]
 | none=>.tuple #[.int .i64 0,.bool false]
def part (op a b:Int):Option Int:=if b=0 then none else if op=12 then some (wrap64 (a.tdiv b)) else if op=13 then some (a.tmod b) else none
theorem parted_any (op a b:Int) (w:World) :
 Calls Tryz.prog 292 #[.int .i64 op,.int .i64 a,.int .i64 b] w fun en w'=>en = .returned (reckV (part op a b))/\w'=w:=by
 by_cases hb:b=0
 . have HP:Hid (part op a b=none):=if_pos hb
   subst hb;go_enter Tryz.func292,Tryz.ntmps292;go_wp2_with fail;exact iR
 have B6:(b == 0)=false:=beq_eq_false_iff_ne.2 hb
 by_cases EE:op=12
 . have HP:Hid (part op a b=some (wrap64 (a.tdiv b))):=(if_neg hb).trans (if_pos EE)
   subst EE;go_enter Tryz.func292,Tryz.ntmps292;go_wp2_with fail;exact iR
 have NY:(op == 12)=false:=beq_eq_false_iff_ne.2 EE
 by_cases Fp:op=13
 . have HP:Hid (part op a b=some (a.tmod b)):=(if_neg hb).trans ((if_neg EE).trans (if_pos Fp))
   subst Fp;go_enter Tryz.func292,Tryz.ntmps292;go_wp2_with fail;exact iR
 have NW:(op == 13)=false:=beq_eq_false_iff_ne.2 Fp;have HP:Hid (part op a b=none):=(if_neg hb).trans ((if_neg EE).trans (if_neg Fp));clear hb EE Fp;go_enter Tryz.func292,Tryz.ntmps292;go_wp2_with fail;exact iR
theorem zwp (op a b:Int) (w:World) :
 Calls Tryz.prog 278 #[.int .i64 op,.int .i64 a,.int .i64 b] w fun en w'=>en = .returned (reckV (Mc.reck op a b))/\w'=w:=by
 have HP:Hid (∀ w:World,Calls Tryz.prog 292 #[.int .i64 op,.int .i64 a,.int .i64 b] w fun en w'=>en = .returned (reckV (part op a b))/\w'=w):=fun w=>parted_any op a b w
 by_cases h9:op=9
 . subst h9
   exact iq
 by_cases Ef:op=10
 . subst Ef
   exact iq
 by_cases M2:op=11
 . subst M2
   exact iq
 by_cases KD:op=14
 . subst KD
   exact ip
 by_cases Iy:op=15
 . subst Iy
   exact ip
 have HR:Hid (Mc.reck op a b=part op a b):=by
  show Mc.reck op a b=_;unfold Mc.reck;rw [if_neg h9,if_neg Ef,if_neg M2,if_neg KD,if_neg Iy]
  rfl
 have b9:(op == 9)=false:=beq_eq_false_iff_ne.2 h9;have UR:(op == 10)=false:=beq_eq_false_iff_ne.2 Ef;have UQ:(op == 11)=false:=beq_eq_false_iff_ne.2 M2;have UP:(op == 14)=false:=beq_eq_false_iff_ne.2 KD;have UO:(op == 15)=false:=beq_eq_false_iff_ne.2 Iy;clear h9 Ef M2 KD Iy
 cases hp:part op a b with
 | none=>
   exact gO
 | some n=>
   exact gO
end Mx
end Go.Proofs.YtndkhgakfodldaaGreatDoor
