import Derived.Test.YtndkhgakfodldaaGreatDoorRa
import Derived.Deep.RegionHeld3
import Derived.BigQuiet
import Derived.Deep.DeepCutAuto
set_option maxRecDepth 100000
set_option maxHeartbeats 8000000
namespace Go.Proofs.YtndkhgakfodldaaGreatDoor
open Go.RowKit Go.Maps
variable {w:World}
def c3 (x:eA):Bool:=(inB x.op 3 5 && !fineB x.mod x.name)||(!inB x.op 3 5&&(!x.mod.toList.isEmpty || !x.name.toList.isEmpty))||(x.op == 1 && !inB x.n 0 1099511627775)||(x.op != 1&&x.n != 0)||(decide (0<=BP x.op)&&((x.args.length:Int) != BP x.op))
def eU (s:St):Bool:=(inB s.op 1 3 && !fineB s.mod s.name)||(!inB s.op 1 3&&(!s.mod.toList.isEmpty || !s.name.toList.isEmpty))||(decide (0<=BQ s.op)&&((s.args.length:Int) != BQ s.op))||(s.op != 4&&s.op != 5&&decide (0<s.body.length))||(s.op != 4&&decide (0<s.other.length))
abbrev BR (w:World) (y:Nat) (v:Value) (ao:List ByteArray):Prop:=w.ownsRow y 9 1 v ao.length (ao.map .string)
theorem BR.cell {y:Nat} {v:Value} {ao:List ByteArray} (h:BR w y v ao):∃ a q,v = .slice a ao.length q/\∀ j (a2:j<ao.length),∃ p,a=some (dj p 0)/\p<w.heap.size/\w.cell? (dj p j)=some (.string ao[j]):=by
 obtain ⟨X,h⟩:=h
 rcases h with ⟨rfl,ab⟩ | ⟨al,q,o,rfl,I,ak,F,J,U,aa⟩
 . exact ⟨none,0,by rw [ab],fun j a2=>N7⟩
 . refine ⟨some (dj al 0),q,rfl,fun j a2=>⟨al,rfl,Nat.lt_of_not_le (fun K=>by rw [lF K] at ak;cases ak),?_⟩⟩
   rw [eZ ak];have:=congrArg (fun g=>g[j]?) aa;simp only [Nat.mul_one] at this;rw [xl,if_pos a2,oF,ew a2] at this;exact S2
theorem step_append_run {P:Program} {ops:Array Oper} {o:Oper} {a:Act} {G:World} {K:Act->World->Prop} {Y:Exit->Act->World->Prop} {E:Prop} (l:o.guard=none) (s x:Operand) (t:TypeId)
 (ap:o.op = .call { callee:=.builtin .append,args:=#[s,x],argTypes:=#[t,t] }) (aF aM aa:Value) (a8:a.eval s=aF) (S:a.eval x=aM)
 (Q:(Builtin.append_ #[t,t] o.type #[aF,aM]).run P w = .ok aa G) (h:K (a.put o.dst aa) G) :
 if Region.wanted o (yielded ops a.tmps)=true then Oper.wp P o a w K Y else E:=by
 have aj:Region.wanted o (yielded ops a.tmps)=true:=OR
 rw [if_pos aj];unfold Oper.wp execOp;simp only [ap,resolve,invoke,builtin,Sem.run_bind,Sem.run_pure,Result.andThen_ok,List.map_toArray,md,qF,a8,S,Q];exact h
def Small (m:ec):Prop:=∀ D ∈ m.procs,D.params.length<=1048576/\D.locals.length<=1048576
theorem dV.c4 {b:Nat} {u0 u1 u2 u3:Value} (h:dV w b [u0,u1,u2,u3]):w.cell? (dj b 0)=some u0/\w.cell? (dj b 1)=some u1/\w.cell? (dj b 2)=some u2/\w.cell? (dj b 3)=some u3/\b<w.heap.size:=
 ⟨h.cell 0 _ rfl,h.cell 1 _ rfl,h.cell 2 _ rfl,h.cell 3 _ rfl,h.lt⟩
end Go.Proofs.YtndkhgakfodldaaGreatDoor
