import Derived.Deep.RegionHeld
import Derived.Test.YtndkhgakfodldaaGreatDoorTd
set_option maxRecDepth 100000
set_option maxHeartbeats 800000
namespace Go.Proofs.YtndkhgakfodldaaGreatDoor
open Go.RowKit Go.Maps
theorem tk {P:Program} {ops:Array Oper} {T:Exit->Act->World->Prop} {k:Region.Mode} {S:World->Prop} {i:Nat} {d:Oper} {v:Value} {p:Nat} {e:Array Bool} {a:Act} {w:World} (X:ops[i]? = some d)
 (F:(Region.noSelect ops&&(Region.free k ops e i&&(Region.ready k ops e).contains i))=true)
 (f:∀ c a w,T (.panic c) (a.put d.dst v) w->T (.panic c) a w) (z:YieldsIf P ops S d v a) (g:S w)
 (h:wpAnyH P k ops T S p (e.setIfInBounds i true) (a.put d.dst v) w):wpAnyH P k ops T S (p+1) e a w:=by
 simp only [fs] at F;exact wpAnyH_take X F.1 F.2.1 F.2.2 f z g h
def fineB (s u:ByteArray):Bool:=(s.toList.isEmpty||nameOk s)&&nameOk u
def inB (n K X:Int):Bool:=decide (K<=n)&&decide (n<=X)
def AD (p:Int):Int:=if p=1\/p=2\/p=3 then 0 else if p=4\/p=6 then 1 else if p=5 then -1 else 2
def AE (p:Int):Int:=if p=2 then 2 else if p=3 then -1 else 1
end Go.Proofs.YtndkhgakfodldaaGreatDoor
