import Derived.Deep.RegionHeld
import Derived.Test.YtndkhgakfodldaaGreatDoorTd
set_option maxRecDepth 100000
set_option maxHeartbeats 800000
namespace Go.Proofs.YtndkhgakfodldaaGreatDoor
open Go.RowKit Go.Maps
theorem sx {α:Type}:(∀ (g:List α) (i:Nat) (x:α),g.toArray.setIfInBounds i x=(g.set i x).toArray)/\(∀ (g:List α) (x a3:α),(x :: g).set 0 a3=a3 :: g)/\(∀ (g:List α) (x a3:α) (n:Nat),(x :: g).set (n+1) a3=x :: g.set n a3):=
 ⟨fun _ _ _=>j1 ..,fun _ _ _=>rfl,fun _ _ _ _=>rfl⟩
theorem tk {P:Program} {ops:Array Oper} {Y:Exit->Act->World->Prop} {k:Region.Mode} {S:World->Prop} {i:Nat} {e:Oper} {v:Value} {d:Nat} {g:Array Bool} {a:Act} {w:World} (V:ops[i]? = some e)
 (I:(Region.noSelect ops&&(Region.free k ops g i&&(Region.ready k ops g).contains i))=true)
 (b:∀ an a w,Y (.panic an) (a.put e.dst v) w->Y (.panic an) a w) (a4:YieldsIf P ops S e v a) (aE:S w)
 (h:wpAnyH P k ops Y S d (g.setIfInBounds i true) (a.put e.dst v) w):wpAnyH P k ops Y S (d+1) g a w:=by
 simp only [dO] at I;exact wpAnyH_take V I.1 I.2.1 I.2.2 b a4 aE h
def fineB (p s:ByteArray):Bool:=(p.toList.isEmpty||nameOk p)&&nameOk s
def inB (n lo V:Int):Bool:=decide (lo<=n)&&decide (n<=V)
def BP (T:Int):Int:=if T=1\/T=2\/T=3 then 0 else if T=4\/T=6 then 1 else if T=5 then -1 else 2
def BQ (T:Int):Int:=if T=2 then 2 else if T=3 then -1 else 1
end Go.Proofs.YtndkhgakfodldaaGreatDoor
