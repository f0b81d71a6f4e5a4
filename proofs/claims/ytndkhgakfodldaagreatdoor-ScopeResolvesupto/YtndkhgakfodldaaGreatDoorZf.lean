import Derived.Test.YtndkhgakfodldaaGreatDoorOl
import Derived.Test.YtndkhgakfodldaaGreatDoorUn
namespace Go.Proofs.YtndkhgakfodldaaGreatDoor
set_option maxRecDepth 100000
open Go.ChangeShapes Go.WideShapes Go.ChangeAt Go.RowKit Go.Deep
set_option linter.unusedVariables false
def _root_.Go.Proofs.YtndkhgakfodldaaGreatDoor.Fx.It.ds (i:It):List D:=itD i
def _root_.Go.Proofs.YtndkhgakfodldaaGreatDoor.Fx.Fc.ds (f:Fc):List D:=fcD f
theorem z2p:Tryz.prog.cellsOf 98=4:=by kernel_rfl
theorem z2y:Tryz.prog.bytesOf 98=40:=by kernel_rfl
theorem z2q:Tryz.prog.cellsOf 30=2:=by kernel_rfl
theorem z2z:Tryz.prog.bytesOf 30=40:=by kernel_rfl
theorem cLI:Tryz.prog.cellsOf 28=1:=by kernel_rfl
section
variable {H:Type} {enc:TypeId × Value->H} {W:World}
theorem z0q (fuel:Nat):∀ cs y,DataW.trod enc Tryz.prog W 0 (fun _=>true) true fuel 98 cs=some y->Okw 98 y.1->∃ z:It,zbe W Tu z.ds cs:=by
 intro cs y h hw;obtain ⟨xs,m,hm,hx,hl,hlen,hf⟩:=vbz Tryz.underlying98 h;subst hx;rw [z2p] at hl
 match xs,hlen,cs,hl with
 | [y0,y1,y2,y3],_,[e0,e1,e2,e3],_=>
   simp only [Okw,DataW.weights,Tryz.underlying98,vbq,vcu,DataW.weightsEach,vaw,van,vcn] at hw
   have f0:DataW.trod enc Tryz.prog W 0 (fun _=>true) true m 3 [e0]=some y0:=by have:=hf 0 _ rfl;simpa [cI] using this
   have f1:DataW.trod enc Tryz.prog W 0 (fun _=>true) true m 3 [e1]=some y1:=by have:=hf 1 _ rfl;simpa [cI] using this
   have f2:DataW.trod enc Tryz.prog W 0 (fun _=>true) true m 3 [e2]=some y2:=by have:=hf 2 _ rfl;simpa [cI] using this
   have f3:DataW.trod enc Tryz.prog W 0 (fun _=>true) true m 9 [e3]=some y3:=by have:=hf 3 _ rfl;simpa [cS] using this
   obtain ⟨w0,w1,w2,w3,_⟩:=hw;obtain ⟨n0,z0,_,v0⟩:=vcj Tryz.underlying3 f0;simp at z0;subst z0;obtain ⟨n1,z1,_,v1⟩:=vcj Tryz.underlying3 f1;simp at z1;subst z1;obtain ⟨n2,z2,_,v2⟩:=vcj Tryz.underlying3 f2;simp at z2;subst z2;obtain ⟨n3,z3,_,v3⟩:=vbh Tryz.underlying9 f3;simp at z3;subst z3;exact ⟨(⟨n0,n1,n2,n3⟩:It),.cons (zd7 v0) (.cons (zd7 v1) (.cons (zd7 v2) (.cons (zd1 v3) .nil)))⟩
theorem z0r (fuel:Nat):∀ cs y,DataW.trod enc Tryz.prog W 0 (fun _=>true) true fuel 30 cs=some y->Okw 30 y.1->∃ z:Fc,zbe W Tu z.ds cs:=by
 intro cs y h hw;obtain ⟨xs,m,hm,hx,hl,hlen,hf⟩:=vbz Tryz.underlying30 h;subst hx;rw [z2q] at hl
 match xs,hlen,cs,hl with
 | [y0,y1],_,[e0,e1],_=>
   simp only [Okw,DataW.weights,Tryz.underlying30,vbq,vcu,DataW.weightsEach,vaw,van,vcn] at hw
   have f0:DataW.trod enc Tryz.prog W 0 (fun _=>true) true m 9 [e0]=some y0:=by have:=hf 0 _ rfl;simpa [cS] using this
   have f1:DataW.trod enc Tryz.prog W 0 (fun _=>true) true m 28 [e1]=some y1:=by have:=hf 1 _ rfl;simpa [cLI] using this
   obtain ⟨w0,w1,_⟩:=hw;obtain ⟨n0,z0,_,v0⟩:=vbh Tryz.underlying9 f0;simp at z0;subst z0;obtain ⟨n1,v1⟩:=zeo (α:=It) Tryz.underlying28 z2p (by omega) (by rw [z2y];omega) itD (fun n _=>z0q n) f1 w1;exact ⟨(⟨n0,n1⟩:Fc),.cons (zd1 v0) (.cons v1 .nil)⟩
theorem zyt {fuel:Nat} {c:Value} {x:DataW H × List MemPlace} (h:DataW.trod enc Tryz.prog W 0 (fun _=>true) true fuel 38 [c]=some x) (hw:Okw 38 x.1):∃ l:List Fc,zde W Tu (.list l.length (ztt l)) c:=
 zeo (α:=Fc) Tryz.underlying38 z2q (by omega) (by rw [z2z];omega) fcD (fun n _=>z0r n) h hw
end
end Go.Proofs.YtndkhgakfodldaaGreatDoor
