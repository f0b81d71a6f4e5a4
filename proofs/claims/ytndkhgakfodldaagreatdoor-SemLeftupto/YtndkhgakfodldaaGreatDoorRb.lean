import Derived.Test.YtndkhgakfodldaaGreatDoorRa
import Derived.Deep.RegionHeld3
import Derived.BigQuiet
import Derived.Deep.DeepCutAuto
namespace Go.Proofs.YtndkhgakfodldaaGreatDoor
open Go.RowKit Go.Maps
def c3 (x:Ex):Bool:=(inB x.op 3 5 && !fineB x.mod x.name)||(!inB x.op 3 5&&(!x.mod.toList.isEmpty || !x.name.toList.isEmpty))||(x.op == 1 && !inB x.n 0 1099511627775)||(x.op != 1&&x.n != 0)||(decide (0<=exN x.op)&&((x.args.length:Int) != exN x.op))
set_option maxRecDepth 100000
set_option maxHeartbeats 8000000
set_option maxHeartbeats 800000
def s3 (s:St):Bool:=(inB s.op 1 3 && !fineB s.mod s.name)||(!inB s.op 1 3&&(!s.mod.toList.isEmpty || !s.name.toList.isEmpty))||(decide (0<=stN s.op)&&((s.args.length:Int) != stN s.op))||(s.op != 4&&s.op != 5&&decide (0<s.body.length))||(s.op != 4&&decide (0<s.other.length))
set_option maxHeartbeats 8000000
set_option maxHeartbeats 800000
abbrev z3x (w:World) (base:Nat) (v:Value) (xs:List ByteArray):Prop:=w.ownsRow base 9 1 v xs.length (xs.map .string)
theorem z3x.cell {w:World} {base:Nat} {v:Value} {xs:List ByteArray} (h:z3x w base v xs):∃ a cap,v = .slice a xs.length cap/\∀ j (hj:j<xs.length),∃ b,a=some ⟨b,0,none⟩/\b<w.heap.size/\w.cell? ⟨b,j,none⟩=some (.string xs[j]):=by
 obtain ⟨hl,h⟩:=h
 rcases h with ⟨rfl,h0⟩ | ⟨g,cap,cur,rfl,hb,hg,h1,h2,h3,h4⟩
 . exact ⟨none,0,by rw [h0],fun j hj=>by omega⟩
 . refine ⟨some ⟨g,0,none⟩,cap,rfl,fun j hj=>⟨g,rfl,Nat.lt_of_not_le (fun hle=>by rw [vch hle] at hg;cases hg),?_⟩⟩
   rw [vee hg];have:=congrArg (fun l=>l[j]?) h4;simp only [vea] at this;rw [List.getElem?_take,if_pos hj,List.getElem?_map,vaj hj] at this;simpa using this
def Small (m:Mo):Prop:=∀ p ∈ m.procs,p.params.length<=1048576/\p.locals.length<=1048576
theorem Blk.c4 {w:World} {b:Nat} {u0 u1 u2 u3:Value} (h:Blk w b [u0,u1,u2,u3]):w.cell? ⟨b,0,none⟩=some u0/\w.cell? ⟨b,1,none⟩=some u1/\w.cell? ⟨b,2,none⟩=some u2/\w.cell? ⟨b,3,none⟩=some u3/\b<w.heap.size:=
 ⟨h.cell 0 _ rfl,h.cell 1 _ rfl,h.cell 2 _ rfl,h.cell 3 _ rfl,h.lt⟩
end Go.Proofs.YtndkhgakfodldaaGreatDoor
