import Derived.Test.YtndkhgakfodldaaGreatDoorOq
import Derived.Test.YtndkhgakfodldaaGreatDoorZw
import Derived.Test.YtndkhgakfodldaaGreatDoorZf
import Derived.Test.YtndkhgakfodldaaGreatDoorUr
namespace Go.Proofs.YtndkhgakfodldaaGreatDoor
set_option maxRecDepth 100000
open Go.ChangeShapes Go.WideShapes Go.ChangeAt Go.RowKit Go.Deep
set_option linter.unusedVariables false
theorem zox {H:Type} {enc:TypeId × Value->H} {W:World} {v:Value} {d:DataW H} {p:List MemPlace} {r:Reach} {base:Nat} (hv:Value.okWide Tryz.prog W r base 27 v)
 (h:DataW.Trod enc Tryz.prog W 0 (fun _=>true) true 27 v d p) (hw:Okw 27 d) :
 ∃ m a1 c1 a2 c2 a3 c3 a4 c4,MoAt W Tt m v a1 c1 a2 c2 a3 c3 a4 c4/\(Rows.uptoBulk d<=1048576->Small m):=by
 obtain ⟨cs,rfl,hsz⟩:=okWide_struct Tryz.underlying27 hv;obtain ⟨fuel,hf⟩:=h;obtain ⟨m,hm,hb⟩:=zxk fuel _ _ hf hw;rw [cM] at hsz;obtain ⟨cs⟩:=cs
 match cs,hsz with
 | [e0,e1,e2,e3,e4],_=>
   have hm':zbe W Tu m.ds [e0,e1,e2,e3,e4]:=hm
   have g:=fun j x h=>hm'.get j x h
   obtain ⟨v0,k0,d0⟩:=g 0 _ rfl;obtain ⟨v1,k1,d1⟩:=g 1 _ rfl;obtain ⟨v2,k2,d2⟩:=g 2 _ rfl;obtain ⟨v3,k3,d3⟩:=g 3 _ rfl;obtain ⟨v4,k4,d4⟩:=g 4 _ rfl;simp at k0 k1 k2 k3 k4;subst k0 k1 k2 k3 k4;obtain ⟨rfl,hn⟩:=zdm d0;obtain ⟨a1,c1,rfl,h1⟩:=zbg d1;obtain ⟨a2,c2,rfl,h2⟩:=zbg d2;obtain ⟨a3,c3,rfl,h3⟩:=zbg d3;obtain ⟨a4,c4,rfl,h4⟩:=zbg d4;exact ⟨m,a1,c1,a2,c2,a3,c3,a4,c4,⟨rfl,hn,h1,h2,h3,h4⟩,hb⟩
end Go.Proofs.YtndkhgakfodldaaGreatDoor
