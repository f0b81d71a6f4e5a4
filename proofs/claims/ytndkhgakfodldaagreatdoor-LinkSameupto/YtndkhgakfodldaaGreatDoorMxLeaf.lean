import Derived.Test.YtndkhgakfodldaaGreatDoorProg
import Derived.Test.YtndkhgakfodldaaGreatDoorMxPure
import Derived.WalkSpells
import Derived.WalkLawsBesides
import Derived.BigQuiet
import Derived.Handy
open Go.Proofs.Tryz
namespace Go.Proofs.YtndkhgakfodldaaGreatDoor
theorem Qp{P:Prop}(h:P:=by
 intro e dk ar
 rcases ar.parts with ⟨u,ay,z,rfl,Hm⟩ | ⟨ay,z,rfl,Hm⟩<;>clear ar<;>simp only [e0]
 . go_wp2_with fail
   go_returns
   exact dM.ok (A.trans z) rfl Hm.out
 . go_wp2_with fail
   exact ⟨rfl,dM.of_stop (A.trans z) Hm.out⟩):P:=h
theorem Qv{P:Prop}(h:P:=by
 intro e w2 ar
 rcases ar.parts with ⟨u,b1,z,rfl,Hm2⟩ | ⟨b1,z,rfl,Hm2⟩<;>clear ar<;>simp only [e0]
 . go_wp2_with fail
   go_returns
   exact dM.ok (f.trans z) rfl Hm2.out
 . go_wp2_with fail
   exact ⟨rfl,dM.of_stop (f.trans z) Hm2.out⟩):P:=h
theorem QF{P:Prop}(h:P:=by
 rintro e w2 ⟨rfl,a1⟩;go_wp2_with fail;exact ⟨rfl,dM.stop A rfl a1⟩):P:=h
theorem QK{P:Prop}(h:P:=by
 go_wp2_with fail
 exact ⟨rfl,dM.of_stop (A.trans (jB _ z)) Hm.out⟩):P:=h
theorem QT{P:Prop}(h:P:=by
 go_wp2_with fail
 go_returns
 exact dM.ok (A.trans ((bind_ok _ aY.out).trans b3.out)) rfl Hm3.out):P:=h
theorem QU{P:Prop}(h:P:=by
 have A:Hid (Mc.getL l x s = .stop { s with en:=6 }):=if_neg P5
 clear W;generalize l.length=n at *;go_enter func222,ntmps222;go_wp2_with fail;refine (qm R _ _ _ Ol d (Y 12)).mono ?_;rintro e G ⟨rfl,rfl⟩;go_wp2_with fail;exact ⟨rfl,dM.stop A rfl ⟨_,_,L.setEn 6⟩⟩):P:=h
theorem QZ{P:Prop}(h:P:=by
 go_enter func109,ntmps109;go_wp2_with fail;refine (ao _ (aM.later ((Below.refl _ _).alloc (Nat.le_refl _) _))).mono ?_;rintro e dk ⟨rfl,I⟩;go_wp2_with fail;go_ret;exact ⟨ret_int aD.symm,((Below.refl _ _).alloc (Nat.le_refl _) _).trans (I.mono Oc)⟩):P:=h
theorem Q0{P:Prop}(h:P:=by
 go_enter func109,ntmps109;go_wp2_with fail;refine (ao _ (aM.later ((Below.refl _ _).alloc (Nat.le_refl _) _))).mono ?_;rintro e dk ⟨rfl,I⟩;go_wp2_with fail;go_ret;exact ⟨ret_int x.symm,((Below.refl _ _).alloc (Nat.le_refl _) _).trans (I.mono Oc)⟩):P:=h
theorem Rh{P:Prop}(h:P:=by
 rw [aA] at A z;clear aA;go_enter func278,ntmps278;go_wp2_with fail;refine (A _).mono ?_;rintro e G ⟨rfl,rfl⟩;simp only [reckV];go_wp2_with fail;go_ret2;exact ⟨by rw [z.out];rfl,rfl⟩):P:=h
theorem RM{P:Prop}(h:P:=by
 go_enter func224,ntmps224;go_wp2_with fail;refine (qm R _ _ _ Ol d Y).mono ?_;rintro e G ⟨rfl,rfl⟩;go_wp2_with fail;exact ⟨rfl,rfl,rfl⟩):P:=h
theorem RO{P:Prop}(h:P:=by
 go_enter func278,ntmps278
 go_wp2_with (go_at_call 227;refine (uu _ _).mono ?_;rintro e G ⟨rfl,rfl⟩)
 go_ret2;exact ⟨rfl,rfl⟩):P:=h
theorem Se{P:Prop}(h:P:=by
 go_wp2_with fail;go_ret;exact ⟨ret_int aD.symm,ag⟩):P:=h
theorem SM{P:Prop}(h:P:=by
 rintro e w2 ⟨rfl,a1⟩;go_wp2_with fail;exact ⟨rfl,dM.stop g rfl a1⟩):P:=h
theorem SQ{P:Prop}(h:P:=by
 go_wp2_with fail
 go_returns
 exact dM.ok A rfl ⟨_,_,L⟩):P:=h
theorem SU{P:Prop}(h:P:=by
 go_wp2_with fail;go_ret;exact ⟨ret_int aD.symm,ag.alloc ag.size _⟩):P:=h
theorem SW{P:Prop}(h:P:=by
 go_wp2_with fail
 exact ⟨rfl,dM.of_stop (jB _ z.out) Hm.out⟩):P:=h
theorem S4{P:Prop}(h:P:=by
 go_ret2;exact ⟨PG,rfl⟩):P:=h
namespace Mx
open Go.RowKit
theorem ret_bool {a b:Bool} (h:a=b):Ending.returned (.bool a) = .returned (.bool b):=by rw [h]
theorem ret_int {k:IntKind} {a b:Int} (h:a=b):Ending.returned (.int k a) = .returned (.int k b):=by rw [h]
def kf (e:Int):List PanicEntry:=[{ v:=.iface 3 (.int .i64 e),recovered:=false }]
theorem stop_any (R:Nat) (e:Int) (x:Value) (w:World) (W:w.cell? ⟨R,12,none⟩=some x) (Y:w.frozen? ⟨R,12,none⟩=false) :
 Calls prog 180 #[.pointer (some ⟨R,0,none⟩),.int .i64 e] w fun d G=>d = .panicked (kf e)/\G=w.setCell ⟨R,12,none⟩ (.int .i64 e):=by
 go_enter func180,ntmps180;go_wp2_with fail;exact ⟨rfl,rfl,rfl⟩
theorem k0 (p:Value) (b:Bool) (w:World) (I:b=true) :
 Calls prog 181 #[p,.bool b] w fun d G=>d = .returned (.tuple #[])/\G=w:=by
 subst I;go_enter func181,ntmps181;go_wp2_with fail
 go_returns
 exact ⟨rfl,rfl⟩
theorem qm (R:Nat) (b:Bool) (x:Value) (w:World) (I:b=false) (W:w.cell? ⟨R,12,none⟩=some x) (Y:w.frozen? ⟨R,12,none⟩=false) :
 Calls prog 181 #[.pointer (some ⟨R,0,none⟩),.bool b] w fun d G=>d = .panicked (kf 6)/\G=w.setCell ⟨R,12,none⟩ (.int .i64 6):=by
 subst I;go_enter func181,ntmps181;go_wp2_with fail;refine (stop_any R 6 x _ W Y).mono ?_;rintro e G ⟨rfl,rfl⟩;go_wp2_with fail;exact ⟨rfl,rfl,rfl⟩
theorem uu (b:Bool) (w:World) :
 Calls prog 227 #[.bool b] w fun d G=>d = .returned (.int .i64 (Mc.truth b))/\G=w:=by
 cases b
 all_goals
  go_enter func227,ntmps227;go_wp2_with fail;go_ret;exact ⟨rfl,rfl⟩
theorem Ba (T:Int) (w:World) :
 Calls prog 277 #[.int .i64 T] w fun d G=>d = .returned (.bool (Mc.isOp T))/\G=w:=by
 go_enter func277,ntmps277
 go_wp2
 all_goals go_ret
 . exact ⟨ret_bool (by simp [Mc.isOp, *]),rfl⟩
 . exact ⟨ret_bool (by simp [Mc.isOp];omega),rfl⟩
def reckV:Option Int->Value
 | some n=>.tuple #[.int .i64 n,.bool true]
 | none=>.tuple #[.int .i64 0,.bool false]
def part (T a b:Int):Option Int:=if b=0 then none else if T=12 then some (wrap64 (a.tdiv b)) else if T=13 then some (a.tmod b) else none
theorem parted_any (T a b:Int) (w:World) :
 Calls prog 292 #[.int .i64 T,.int .i64 a,.int .i64 b] w fun d G=>d = .returned (reckV (part T a b))/\G=w:=by
 by_cases I:b=0
 . have A:Hid (part T a b=none):=if_pos I
   subst I;go_enter func292,ntmps292;go_wp2_with fail;exact S4
 have aB:(b == 0)=false:=beq_eq_false_iff_ne.2 I
 by_cases e:T=12
 . have A:Hid (part T a b=some (wrap64 (a.tdiv b))):=(if_neg I).trans (if_pos e)
   subst e;go_enter func292,ntmps292;go_wp2_with fail;exact S4
 have g:(T == 12)=false:=beq_eq_false_iff_ne.2 e
 by_cases c:T=13
 . have A:Hid (part T a b=some (a.tmod b)):=(if_neg I).trans ((if_neg e).trans (if_pos c))
   subst c;go_enter func292,ntmps292;go_wp2_with fail;exact S4
 have f:(T == 13)=false:=beq_eq_false_iff_ne.2 c;have A:Hid (part T a b=none):=(if_neg I).trans ((if_neg e).trans (if_neg c));clear I e c;go_enter func292,ntmps292;go_wp2_with fail;exact S4
theorem G9 (T a b:Int) (w:World) :
 Calls prog 278 #[.int .i64 T,.int .i64 a,.int .i64 b] w fun d G=>d = .returned (reckV (Mc.reck T a b))/\G=w:=by
 have A:Hid (∀ w:World,Calls prog 292 #[.int .i64 T,.int .i64 a,.int .i64 b] w fun d G=>d = .returned (reckV (part T a b))/\G=w):=fun w=>parted_any T a b w
 by_cases l:T=9
 . subst l
   go_enter func278,ntmps278;go_wp2_with fail;go_ret2;exact ⟨rfl,rfl⟩
 by_cases B:T=10
 . subst B
   go_enter func278,ntmps278;go_wp2_with fail;go_ret2;exact ⟨rfl,rfl⟩
 by_cases g:T=11
 . subst g
   go_enter func278,ntmps278;go_wp2_with fail;go_ret2;exact ⟨rfl,rfl⟩
 by_cases f:T=14
 . subst f
   exact RO
 by_cases c:T=15
 . subst c
   exact RO
 have z:Hid (Mc.reck T a b=part T a b):=by
  show Mc.reck T a b=_;unfold Mc.reck;rw [if_neg l,if_neg B,if_neg g,if_neg f,if_neg c]
  rfl
 have h:(T == 9)=false:=beq_eq_false_iff_ne.2 l;have j:(T == 10)=false:=beq_eq_false_iff_ne.2 B;have i:(T == 11)=false:=beq_eq_false_iff_ne.2 g;have k:(T == 14)=false:=beq_eq_false_iff_ne.2 f;have m:(T == 15)=false:=beq_eq_false_iff_ne.2 c;clear l B g f c
 cases aA:part T a b with
 | none=>
   exact Rh
 | some n=>
   exact Rh
end Mx
end Go.Proofs.YtndkhgakfodldaaGreatDoor
