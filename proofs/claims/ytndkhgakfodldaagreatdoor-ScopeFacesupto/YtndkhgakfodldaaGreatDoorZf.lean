/-
  Faces that came in, opened.
-/
import Derived.Test.YtndkhgakfodldaaGreatDoorOl
import Derived.Test.YtndkhgakfodldaaGreatDoorUp
namespace Go.Proofs.YtndkhgakfodldaaGreatDoor
set_option maxRecDepth 100000
open Go.ChangeShapes Go.WideShapes Go.ChangeAt Go.RowKit Go.Deep
set_option linter.unusedVariables false
def _root_.Go.Proofs.YtndkhgakfodldaaGreatDoor.Fx.It.ds (i:It):List D:=itD i
def _root_.Go.Proofs.YtndkhgakfodldaaGreatDoor.Fx.Fc.ds (f:Fc):List D:=fcD f
theorem cIt_:Tryz.prog.cellsOf 98=4:=by kernel_rfl
theorem bIt_:Tryz.prog.bytesOf 98=40:=by kernel_rfl
theorem cFc_:Tryz.prog.cellsOf 30=2:=by kernel_rfl
theorem cLI:Tryz.prog.cellsOf 28=1:=by kernel_rfl
section
variable {H:Type} {enc:TypeId × Value->H} {W:World}
theorem open_it (fuel:Nat):∀ cs y,DataW.trod enc Tryz.prog W 0 (fun _=>true) true fuel 98 cs=some y->Okw 98 y.1->∃ z:It,DVals W Tu z.ds cs:=by
 intro cs y h hw;obtain ⟨xs,m,hm,hx,hl,hlen,hf⟩:=DataW.trod_struct Tryz.underlying98 h;subst hx;rw [cIt_] at hl
 match xs,hlen,cs,hl with
 | [y0,y1,y2,y3],_,[e0,e1,e2,e3],_=>
   simp only [Okw,DataW.weights,Tryz.underlying98,List.map_cons,List.map_nil,DataW.weightsEach,List.all_append,Bool.and_eq_true,List.all_nil] at hw
   have f0:DataW.trod enc Tryz.prog W 0 (fun _=>true) true m 3 [e0]=some y0:=by have:=hf 0 _ rfl;simpa [cI] using this
   have f1:DataW.trod enc Tryz.prog W 0 (fun _=>true) true m 3 [e1]=some y1:=by have:=hf 1 _ rfl;simpa [cI] using this
   have f2:DataW.trod enc Tryz.prog W 0 (fun _=>true) true m 3 [e2]=some y2:=by have:=hf 2 _ rfl;simpa [cI] using this
   have f3:DataW.trod enc Tryz.prog W 0 (fun _=>true) true m 9 [e3]=some y3:=by have:=hf 3 _ rfl;simpa [cS] using this
   obtain ⟨w0,w1,w2,w3,_⟩:=hw;obtain ⟨n0,z0,_,v0⟩:=DataW.trod_int Tryz.underlying3 f0;simp at z0;subst z0;obtain ⟨n1,z1,_,v1⟩:=DataW.trod_int Tryz.underlying3 f1;simp at z1;subst z1;obtain ⟨n2,z2,_,v2⟩:=DataW.trod_int Tryz.underlying3 f2;simp at z2;subst z2;obtain ⟨n3,z3,_,v3⟩:=DataW.trod_string Tryz.underlying9 f3;simp at z3;subst z3;exact ⟨(⟨n0,n1,n2,n3⟩:It),.cons (dint v0) (.cons (dint v1) (.cons (dint v2) (.cons (dstr v3) .nil)))⟩
theorem open_fc (fuel:Nat):∀ cs y,DataW.trod enc Tryz.prog W 0 (fun _=>true) true fuel 30 cs=some y->Okw 30 y.1->∃ z:Fc,DVals W Tu z.ds cs:=by
 intro cs y h hw;obtain ⟨xs,m,hm,hx,hl,hlen,hf⟩:=DataW.trod_struct Tryz.underlying30 h;subst hx;rw [cFc_] at hl
 match xs,hlen,cs,hl with
 | [y0,y1],_,[e0,e1],_=>
   simp only [Okw,DataW.weights,Tryz.underlying30,List.map_cons,List.map_nil,DataW.weightsEach,List.all_append,Bool.and_eq_true,List.all_nil] at hw
   have f0:DataW.trod enc Tryz.prog W 0 (fun _=>true) true m 9 [e0]=some y0:=by have:=hf 0 _ rfl;simpa [cS] using this
   have f1:DataW.trod enc Tryz.prog W 0 (fun _=>true) true m 28 [e1]=some y1:=by have:=hf 1 _ rfl;simpa [cLI] using this
   obtain ⟨w0,w1,_⟩:=hw;obtain ⟨n0,z0,_,v0⟩:=DataW.trod_string Tryz.underlying9 f0;simp at z0;subst z0;obtain ⟨n1,v1⟩:=open_list (α:=It) Tryz.underlying28 cIt_ (by omega) (by rw [bIt_];omega) itD (fun n _=>open_it n) f1 w1;exact ⟨(⟨n0,n1⟩:Fc),.cons (dstr v0) (.cons v1 .nil)⟩
end
end Go.Proofs.YtndkhgakfodldaaGreatDoor
