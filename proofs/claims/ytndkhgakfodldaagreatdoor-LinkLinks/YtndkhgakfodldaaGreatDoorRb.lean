import Derived.Test.YtndkhgakfodldaaGreatDoorRa
import Derived.Deep.RegionHeld3
import Derived.BigQuiet
import Derived.Deep.DeepCutAuto
set_option maxRecDepth 100000
set_option maxHeartbeats 8000000
namespace Go.Proofs.YtndkhgakfodldaaGreatDoor
open Go.RowKit Go.Maps
def c3 (x:fg):Bool:=(inB x.op 3 5 && !fineB x.mod x.name)||(!inB x.op 3 5&&(!x.mod.toList.isEmpty || !x.name.toList.isEmpty))||(x.op == 1 && !inB x.n 0 1099511627775)||(x.op != 1&&x.n != 0)||(decide (0<=AD x.op)&&((x.args.length:Int) != AD x.op))
def fX (s:St):Bool:=(inB s.op 1 3 && !fineB s.mod s.name)||(!inB s.op 1 3&&(!s.mod.toList.isEmpty || !s.name.toList.isEmpty))||(decide (0<=AE s.op)&&((s.args.length:Int) != AE s.op))||(s.op != 4&&s.op != 5&&decide (0<s.body.length))||(s.op != 4&&decide (0<s.other.length))
theorem Tryz.infoStr:(Tryz.prog.info? 9).map (fun i=>(i.zero,i.size,i.bytes))=some (some (.string .empty),1,16):=by kernel_rfl
abbrev qw (w:World) (Y:Nat) (v:Value) (ae:List ByteArray):Prop:=w.ownsRow Y 9 1 v ae.length (ae.map .string)
theorem qw.cell {w:World} {Y:Nat} {v:Value} {ae:List ByteArray} (h:qw w Y v ae):∃ a I,v = .slice a ae.length I/\∀ j (ac:j<ae.length),∃ V,a=some (ep V 0)/\V<w.heap.size/\w.cell? (ep V j)=some (.string ae[j]):=by
 obtain ⟨a2,h⟩:=h
 rcases h with ⟨rfl,a3⟩ | ⟨g,I,o,rfl,F,af,G,J,S,a6⟩
 . exact ⟨none,0,by rw [a3],fun j ac=>by omega⟩
 . refine ⟨some (ep g 0),I,rfl,fun j ac=>⟨g,rfl,Nat.lt_of_not_le (fun an=>by rw [lK an] at af;cases af),?_⟩⟩
   rw [fU af];have:=congrArg (fun K=>K[j]?) a6;simp only [Nat.mul_one] at this;rw [wW,if_pos ac,List.getElem?_map,gb ac] at this;simpa using this
theorem step_append_run {P:Program} {ops:Array Oper} {o:Oper} {a:Act} {w r:World} {K:Act->World->Prop} {T:Exit->Act->World->Prop} {E:Prop} (m:o.guard=none) (s x:Operand) (t:TypeId)
 (aa:o.op = .call { callee:=.builtin .append,args:=#[s,x],argTypes:=#[t,t] }) (aK aN v':Value) (Z:a.eval s=aK) (Q:a.eval x=aN)
 (W:(Builtin.append_ #[t,t] o.type #[aK,aN]).run P w = .ok v' r) (h:K (a.put o.dst v') r) :
 if Region.wanted o (yielded ops a.tmps)=true then Oper.wp P o a w K T else E:=by
 have aq:Region.wanted o (yielded ops a.tmps)=true:=by simp [Region.wanted,m]
 rw [if_pos aq];unfold Oper.wp execOp;simp only [aa,resolve,invoke,builtin,Sem.run_bind,Sem.run_pure,Result.andThen_ok,List.map_toArray,oy,sy,Z,Q,W];exact h
end Go.Proofs.YtndkhgakfodldaaGreatDoor
