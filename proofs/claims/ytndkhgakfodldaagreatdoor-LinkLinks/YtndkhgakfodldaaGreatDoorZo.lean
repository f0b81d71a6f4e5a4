import Derived.Test.YtndkhgakfodldaaGreatDoorZw
import Derived.Test.YtndkhgakfodldaaGreatDoorUt
namespace Go.Proofs.YtndkhgakfodldaaGreatDoor
set_option maxRecDepth 100000
open Go.ChangeShapes Go.WideShapes Go.ChangeAt Go.RowKit Go.Deep
set_option linter.unusedVariables false
theorem ybi:Tryz.prog.cellsOf 69=3:=ah
theorem yb6:Tryz.prog.bytesOf 69=24:=ah
theorem ybj:Tryz.prog.cellsOf 67=3:=ah
theorem yb7:Tryz.prog.bytesOf 67=24:=ah
theorem yba:Tryz.prog.cellsOf 62=7:=ah
theorem yb8:Tryz.prog.bytesOf 62=128:=ah
theorem cLG:Tryz.prog.cellsOf 59=1:=ah
theorem cLX:Tryz.prog.cellsOf 60=1:=ah
theorem yb9:Tryz.prog.cellsOf 49=1:=ah
theorem bI_:Tryz.prog.bytesOf 3=8:=ah
theorem z1s (l:List Int):l.flatMap (fun n=>[D.int n])=zgf l:=by
 induction l with
 | nil=>rfl
 | cons x r ih=>simp only [vbj,ih,zgf,vco];rfl
section
variable {H:Type} {enc:TypeId × Value->H} {W:World}
theorem z1t {AB:Nat} {c:Value} {x:DataW H × List MemPlace} (h:DataW.trod enc Tryz.prog W 0 (fun _=>true) true AB 49 [c]=some x) (hw:Okw 49 x.1):∃ l:List Int,zdg W Tu (.list l.length (zgf l)) c:=by
 obtain ⟨l,hl⟩:=zgo (α:=Int) Tryz.underlying49 cI ae (by rw [bI_];omega) (fun n=>[D.int n]) (fun n _ cs y hy _=>by
  obtain ⟨s,rfl,_,hs⟩:=vcm Tryz.underlying3 hy
  exact ⟨s,.cons (zdt hs) .nil⟩) h hw
 rw [z1s] at hl;exact ⟨l,hl⟩
theorem z7p (AB:Nat):∀ cs y,DataW.trod enc Tryz.prog W 0 (fun _=>true) true AB 69 cs=some y->Okw 69 y.1->∃ z:Gi,zaq W Tu z.ds cs:=by
 intro cs y h hw;obtain ⟨xs,m,hm,hx,hl,Ah,hf⟩:=veb Tryz.underlying69 h;subst hx;rw [ybi] at hl
 match xs,Ah,cs,hl with
 | [y0,y1,y2],_,[e0,e1,e2],_=>
   simp only [Okw,DataW.weights,Tryz.underlying69,vco,vdx,DataW.weightsEach,vbp,vac,vei] at hw
   have f0:DataW.trod enc Tryz.prog W 0 (fun _=>true) true m 3 [e0]=some y0:=by have:=hf 0 _ rfl;simpa [cI] using this
   have f1:DataW.trod enc Tryz.prog W 0 (fun _=>true) true m 3 [e1]=some y1:=by have:=hf 1 _ rfl;simpa [cI] using this
   have f2:DataW.trod enc Tryz.prog W 0 (fun _=>true) true m 3 [e2]=some y2:=dL
   obtain ⟨w0,w1,w2,_⟩:=hw;obtain ⟨n0,z0,_,v0⟩:=vcm Tryz.underlying3 f0;simp at z0;subst z0;obtain ⟨n1,z1,_,v1⟩:=vcm Tryz.underlying3 f1;simp at z1;subst z1;obtain ⟨n2,z2,_,v2⟩:=vcm Tryz.underlying3 f2;simp at z2;subst z2;exact ⟨(⟨n0,n1,n2⟩:Gi),.cons (zdt v0) (.cons (zdt v1) (.cons (zdt v2) .nil))⟩
theorem z7q (AB:Nat):∀ cs y,DataW.trod enc Tryz.prog W 0 (fun _=>true) true AB 67 cs=some y->Okw 67 y.1->∃ z:Gf,zaq W Tu z.ds cs:=by
 intro cs y h hw;obtain ⟨xs,m,hm,hx,hl,Ah,hf⟩:=veb Tryz.underlying67 h;subst hx;rw [ybj] at hl
 match xs,Ah,cs,hl with
 | [y0,y1,y2],_,[e0,e1,e2],_=>
   simp only [Okw,DataW.weights,Tryz.underlying67,vco,vdx,DataW.weightsEach,vbp,vac,vei] at hw
   have f0:DataW.trod enc Tryz.prog W 0 (fun _=>true) true m 3 [e0]=some y0:=by have:=hf 0 _ rfl;simpa [cI] using this
   have f1:DataW.trod enc Tryz.prog W 0 (fun _=>true) true m 3 [e1]=some y1:=by have:=hf 1 _ rfl;simpa [cI] using this
   have f2:DataW.trod enc Tryz.prog W 0 (fun _=>true) true m 3 [e2]=some y2:=dL
   obtain ⟨w0,w1,w2,_⟩:=hw;obtain ⟨n0,z0,_,v0⟩:=vcm Tryz.underlying3 f0;simp at z0;subst z0;obtain ⟨n1,z1,_,v1⟩:=vcm Tryz.underlying3 f1;simp at z1;subst z1;obtain ⟨n2,z2,_,v2⟩:=vcm Tryz.underlying3 f2;simp at z2;subst z2;exact ⟨(⟨n0,n1,n2⟩:Gf),.cons (zdt v0) (.cons (zdt v1) (.cons (zdt v2) .nil))⟩
theorem z1u (AB:Nat):∀ cs y,DataW.trod enc Tryz.prog W 0 (fun _=>true) true AB 62 cs=some y->Okw 62 y.1->∃ z:Ob,zaq W Tu z.ds cs/\∀ x k y,cs[1]? = some (.slice x k y)->k<=y:=by
 intro cs y h hw;obtain ⟨xs,m,hm,hx,hl,Ah,hf⟩:=veb Tryz.underlying62 h;subst hx;rw [yba] at hl
 match xs,Ah,cs,hl with
 | [y0,y1,y2,y3,y4,y5,y6],_,[e0,e1,e2,e3,e4,e5,e6],_=>
   simp only [Okw,DataW.weights,Tryz.underlying62,vco,vdx,DataW.weightsEach,vbp,vac,vei] at hw
   have f0:DataW.trod enc Tryz.prog W 0 (fun _=>true) true m 9 [e0]=some y0:=by have:=hf 0 _ rfl;simpa [cS] using this
   have f1:DataW.trod enc Tryz.prog W 0 (fun _=>true) true m 22 [e1]=some y1:=by have:=hf 1 _ rfl;simpa [cLT] using this
   have f2:DataW.trod enc Tryz.prog W 0 (fun _=>true) true m 3 [e2]=some y2:=dL
   have f3:DataW.trod enc Tryz.prog W 0 (fun _=>true) true m 59 [e3]=some y3:=by have:=hf 3 _ rfl;simpa [cLG] using this
   have f4:DataW.trod enc Tryz.prog W 0 (fun _=>true) true m 60 [e4]=some y4:=by have:=hf 4 _ rfl;simpa [cLX] using this
   have f5:DataW.trod enc Tryz.prog W 0 (fun _=>true) true m 49 [e5]=some y5:=by have:=hf 5 _ rfl;simpa [yb9] using this
   have f6:DataW.trod enc Tryz.prog W 0 (fun _=>true) true m 3 [e6]=some y6:=by have:=hf 6 _ rfl;simpa [cI] using this
   obtain ⟨w0,w1,w2,w3,w4,w5,w6,_⟩:=hw;obtain ⟨n0,z0,_,v0⟩:=DataW.trod_string Tryz.underlying9 f0;simp at z0;subst z0;obtain ⟨n1,v1⟩:=zzr f1 w1;obtain ⟨n2,z2,_,v2⟩:=vcm Tryz.underlying3 f2;simp at z2;subst z2;obtain ⟨n3,v3⟩:=zgo (α:=Gi) Tryz.underlying59 ybi ae (by rw [yb6];omega) Gi.ds (fun n _=>z7p n) f3 w3;obtain ⟨n4,v4⟩:=zgo (α:=Gf) Tryz.underlying60 ybj ae (by rw [yb7];omega) Gf.ds (fun n _=>z7q n) f4 w4;obtain ⟨n5,v5⟩:=z1t f5 w5;obtain ⟨n6,z6,_,v6⟩:=vcm Tryz.underlying3 f6;simp at z6;subst z6;refine ⟨(⟨n0,n1,n2,n3,n4,n5,n6⟩:Ob),.cons (ze7 v0) (.cons v1 (.cons (zdt v2) (.cons v3 (.cons v4 (.cons v5 (.cons (zdt v6) .nil)))))),fun x k y Pg=>?_⟩;simp at Pg;subst Pg
   rcases vdm Tryz.underlying22 f1 with ⟨B5,_⟩ | ⟨a,len,cap,elems,rest,n,_,B5,_,_,hl,_⟩
   . simp at B5;omega
   . simp at B5;omega
end
end Go.Proofs.YtndkhgakfodldaaGreatDoor
