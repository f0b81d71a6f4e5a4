import Derived.Deep.RegionHeld
import Derived.Test.YtndkhgakfodldaaGreatDoorTd
namespace Go.Proofs.YtndkhgakfodldaaGreatDoor
set_option maxRecDepth 100000
set_option maxHeartbeats 800000
open Go.RowKit Go.Maps
theorem sx {α:Type}:(∀ (l:List α) (i:Nat) (x:α),l.toArray.setIfInBounds i x=(l.set i x).toArray)/\(∀ (l:List α) (x y:α),(x :: l).set 0 y=y :: l)/\(∀ (l:List α) (x y:α) (n:Nat),(x :: l).set (n+1) y=x :: l.set n y):=
 ⟨fun _ _ _=>vad ..,fun _ _ _=>rfl,fun _ _ _ _=>rfl⟩
theorem tk {P:Program} {ops:Array Oper} {Q:Exit->Act->World->Prop} {md:Region.Mode} {S:World->Prop} {i:Nat} {oi:Oper} {v:Value} {Az:Nat} {Ap:Array Bool} {a:Act} {w:World} (hi:ops[i]? = some oi)
 (hb:(Region.noSelect ops&&(Region.free md ops Ap i&&(Region.ready md ops Ap).contains i))=true)
 (hQ:∀ c a w,Q (.panic c) (a.put oi.dst v) w->Q (.panic c) a w) (hy:YieldsIf P ops S oi v a) (hS:S w)
 (h:wpAnyH P md ops Q S Az (Ap.setIfInBounds i true) (a.put oi.dst v) w):wpAnyH P md ops Q S (Az+1) Ap a w:=by
 simp only [vab] at hb;exact wpAnyH_take hi hb.1 hb.2.1 hb.2.2 hQ hy hS h
def fineB (mod name:ByteArray):Bool:=(mod.toList.isEmpty||nameOk mod)&&nameOk name
def inB (n lo hi:Int):Bool:=decide (lo<=n)&&decide (n<=hi)
def exN (op:Int):Int:=if op=1\/op=2\/op=3 then 0 else if op=4\/op=6 then 1 else if op=5 then -1 else 2
def stN (op:Int):Int:=if op=2 then 2 else if op=3 then -1 else 1
end Go.Proofs.YtndkhgakfodldaaGreatDoor
