import Derived.Test.YtndkhgakfodldaaGreatDoorRa
import Derived.Deep.RegionHeld3
import Derived.BigQuiet
import Derived.Deep.DeepCutAuto
namespace Go.Proofs.YtndkhgakfodldaaGreatDoor
open Go.RowKit Go.Maps
def c3 (x:Ex):Bool:=(inB x.op 3 5 && !fineB x.mod x.name)||(!inB x.op 3 5&&(!x.mod.toList.isEmpty || !x.name.toList.isEmpty))||(x.op == 1 && !inB x.n 0 1099511627775)||(x.op != 1&&x.n != 0)||(decide (0<=exN x.op)&&((x.args.length:Int) != exN x.op))
set_option maxRecDepth 100000
set_option maxHeartbeats 8000000
set_option maxHeartbeats 800000
def s3 (s:St):Bool:=(inB s.op 1 3 && !fineB s.mod s.name)||(!inB s.op 1 3&&(!s.mod.toList.isEmpty || !s.name.toList.isEmpty))||(decide (0<=stN s.op)&&((s.args.length:Int) != stN s.op))||(s.op != 4&&s.op != 5&&decide (0<s.body.length))||(s.op != 4&&decide (0<s.other.length))
set_option maxHeartbeats 8000000
set_option maxHeartbeats 800000
theorem Tryz.infoStr:(Tryz.prog.info? 9).map (fun i=>(i.zero,i.size,i.bytes))=some (some (.string .empty),1,16):=by kernel_rfl
abbrev z36 (w:World) (base:Nat) (v:Value) (xs:List ByteArray):Prop:=w.ownsRow base 9 1 v xs.length (xs.map .string)
theorem z36.cell {w:World} {base:Nat} {v:Value} {xs:List ByteArray} (h:z36 w base v xs):∃ a cap,v = .slice a xs.length cap/\∀ j (hj:j<xs.length),∃ b,a=some (qa b 0)/\b<w.heap.size/\w.cell? (qa b j)=some (.string xs[j]):=by
 obtain ⟨hl,h⟩:=h
 rcases h with ⟨rfl,h0⟩ | ⟨g,cap,AC,rfl,hb,hg,h1,h2,h3,h4⟩
 . exact ⟨none,0,by rw [h0],fun j hj=>by omega⟩
 . refine ⟨some (qa g 0),cap,rfl,fun j hj=>⟨g,rfl,Nat.lt_of_not_le (fun Ee=>by rw [vaz Ee] at hg;cases hg),?_⟩⟩
   rw [vep hg];have:=congrArg (fun l=>l[j]?) h4;simp only [Nat.mul_one] at this;rw [vdw,if_pos hj,List.getElem?_map,vac hj] at this;simpa using this
theorem step_append_run {P:Program} {ops:Array Oper} {o:Oper} {a:Act} {w w':World} {K:Act->World->Prop} {Q:Exit->Act->World->Prop} {E:Prop} (BC:o.guard=none) (s x:Operand) (t:TypeId)
 (ho:o.op = .call { callee:=.builtin .append,args:=#[s,x],argTypes:=#[t,t] }) (v1 v2 v':Value) (hs:a.eval s=v1) (hx:a.eval x=v2)
 (hr:(Builtin.append_ #[t,t] o.type #[v1,v2]).run P w = .ok v' w') (h:K (a.put o.dst v') w') :
 if Region.wanted o (yielded ops a.tmps)=true then Oper.wp P o a w K Q else E:=by
 have hw:Region.wanted o (yielded ops a.tmps)=true:=by simp [Region.wanted,BC]
 rw [if_pos hw];unfold Oper.wp execOp;simp only [ho,resolve,invoke,builtin,Sem.run_bind,Sem.run_pure,Result.andThen_ok,List.map_toArray,vcm,vdv,hs,hx,hr];exact h
end Go.Proofs.YtndkhgakfodldaaGreatDoor
