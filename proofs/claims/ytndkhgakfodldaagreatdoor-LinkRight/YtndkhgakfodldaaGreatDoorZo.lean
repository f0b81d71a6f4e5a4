import Derived.Test.YtndkhgakfodldaaGreatDoorZw
import Derived.Test.YtndkhgakfodldaaGreatDoorUt
namespace Go.Proofs.YtndkhgakfodldaaGreatDoor
set_option maxRecDepth 100000
open Go.ChangeShapes Go.WideShapes Go.ChangeAt Go.RowKit Go.Deep
set_option linter.unusedVariables false
theorem yah:Tryz.prog.cellsOf 69=3:=by kernel_rfl
theorem ya5:Tryz.prog.bytesOf 69=24:=by kernel_rfl
theorem yai:Tryz.prog.cellsOf 67=3:=by kernel_rfl
theorem ya6:Tryz.prog.bytesOf 67=24:=by kernel_rfl
theorem z98:Tryz.prog.cellsOf 62=7:=by kernel_rfl
theorem ya7:Tryz.prog.bytesOf 62=128:=by kernel_rfl
theorem cLG:Tryz.prog.cellsOf 59=1:=by kernel_rfl
theorem cLX:Tryz.prog.cellsOf 60=1:=by kernel_rfl
theorem ya8:Tryz.prog.cellsOf 49=1:=by kernel_rfl
theorem bI_:Tryz.prog.bytesOf 3=8:=by kernel_rfl
theorem z0w (l:List Int):l.flatMap (fun n=>[D.int n])=zfy l:=by
 induction l with
 | nil=>rfl
 | cons x r ih=>simp only [vbf,ih,zfy,vcn];rfl
section
variable {H:Type} {enc:TypeId × Value->H} {W:World}
theorem z0x {AE:Nat} {c:Value} {x:DataW H × List MemPlace} (h:DataW.trod enc Tryz.prog W 0 (fun _=>true) true AE 49 [c]=some x) (hw:Okw 49 x.1):∃ l:List Int,zc7 W Tu (.list l.length (zfy l)) c:=by
 obtain ⟨l,hl⟩:=zf6 (α:=Int) Tryz.underlying49 cI (by omega) (by rw [bI_];omega) (fun n=>[D.int n]) (fun n _ cs y hy _=>by
  obtain ⟨s,rfl,_,hs⟩:=vci Tryz.underlying3 hy
  exact ⟨s,.cons (zdl hs) .nil⟩) h hw
 rw [z0w] at hl;exact ⟨l,hl⟩
theorem z6l (AE:Nat):∀ cs y,DataW.trod enc Tryz.prog W 0 (fun _=>true) true AE 69 cs=some y->Okw 69 y.1->∃ z:Gi,zap W Tu z.ds cs:=by
 intro cs y h hw;obtain ⟨xs,m,hm,hx,hl,Ah,hf⟩:=vdt Tryz.underlying69 h;subst hx;rw [yah] at hl
 match xs,Ah,cs,hl with
 | [y0,y1,y2],_,[e0,e1,e2],_=>
   simp only [Okw,DataW.weights,Tryz.underlying69,vcn,vdq,DataW.weightsEach,vbm,vac,veb] at hw
   have f0:DataW.trod enc Tryz.prog W 0 (fun _=>true) true m 3 [e0]=some y0:=by have:=hf 0 _ rfl;simpa [cI] using this
   have f1:DataW.trod enc Tryz.prog W 0 (fun _=>true) true m 3 [e1]=some y1:=by have:=hf 1 _ rfl;simpa [cI] using this
   have f2:DataW.trod enc Tryz.prog W 0 (fun _=>true) true m 3 [e2]=some y2:=by have:=hf 2 _ rfl;simpa [cI] using this
   obtain ⟨w0,w1,w2,_⟩:=hw;obtain ⟨n0,z0,_,v0⟩:=vci Tryz.underlying3 f0;simp at z0;subst z0;obtain ⟨n1,z1,_,v1⟩:=vci Tryz.underlying3 f1;simp at z1;subst z1;obtain ⟨n2,z2,_,v2⟩:=vci Tryz.underlying3 f2;simp at z2;subst z2;exact ⟨(⟨n0,n1,n2⟩:Gi),.cons (zdl v0) (.cons (zdl v1) (.cons (zdl v2) .nil))⟩
theorem z6m (AE:Nat):∀ cs y,DataW.trod enc Tryz.prog W 0 (fun _=>true) true AE 67 cs=some y->Okw 67 y.1->∃ z:Gf,zap W Tu z.ds cs:=by
 intro cs y h hw;obtain ⟨xs,m,hm,hx,hl,Ah,hf⟩:=vdt Tryz.underlying67 h;subst hx;rw [yai] at hl
 match xs,Ah,cs,hl with
 | [y0,y1,y2],_,[e0,e1,e2],_=>
   simp only [Okw,DataW.weights,Tryz.underlying67,vcn,vdq,DataW.weightsEach,vbm,vac,veb] at hw
   have f0:DataW.trod enc Tryz.prog W 0 (fun _=>true) true m 3 [e0]=some y0:=by have:=hf 0 _ rfl;simpa [cI] using this
   have f1:DataW.trod enc Tryz.prog W 0 (fun _=>true) true m 3 [e1]=some y1:=by have:=hf 1 _ rfl;simpa [cI] using this
   have f2:DataW.trod enc Tryz.prog W 0 (fun _=>true) true m 3 [e2]=some y2:=by have:=hf 2 _ rfl;simpa [cI] using this
   obtain ⟨w0,w1,w2,_⟩:=hw;obtain ⟨n0,z0,_,v0⟩:=vci Tryz.underlying3 f0;simp at z0;subst z0;obtain ⟨n1,z1,_,v1⟩:=vci Tryz.underlying3 f1;simp at z1;subst z1;obtain ⟨n2,z2,_,v2⟩:=vci Tryz.underlying3 f2;simp at z2;subst z2;exact ⟨(⟨n0,n1,n2⟩:Gf),.cons (zdl v0) (.cons (zdl v1) (.cons (zdl v2) .nil))⟩
theorem z0y (AE:Nat):∀ cs y,DataW.trod enc Tryz.prog W 0 (fun _=>true) true AE 62 cs=some y->Okw 62 y.1->∃ z:Ob,zap W Tu z.ds cs/\∀ x k y,cs[1]? = some (.slice x k y)->k<=y:=by
 intro cs y h hw;obtain ⟨xs,m,hm,hx,hl,Ah,hf⟩:=vdt Tryz.underlying62 h;subst hx;rw [z98] at hl
 match xs,Ah,cs,hl with
 | [y0,y1,y2,y3,y4,y5,y6],_,[e0,e1,e2,e3,e4,e5,e6],_=>
   simp only [Okw,DataW.weights,Tryz.underlying62,vcn,vdq,DataW.weightsEach,vbm,vac,veb] at hw
   have f0:DataW.trod enc Tryz.prog W 0 (fun _=>true) true m 9 [e0]=some y0:=by have:=hf 0 _ rfl;simpa [cS] using this
   have f1:DataW.trod enc Tryz.prog W 0 (fun _=>true) true m 22 [e1]=some y1:=by have:=hf 1 _ rfl;simpa [cLT] using this
   have f2:DataW.trod enc Tryz.prog W 0 (fun _=>true) true m 3 [e2]=some y2:=by have:=hf 2 _ rfl;simpa [cI] using this
   have f3:DataW.trod enc Tryz.prog W 0 (fun _=>true) true m 59 [e3]=some y3:=by have:=hf 3 _ rfl;simpa [cLG] using this
   have f4:DataW.trod enc Tryz.prog W 0 (fun _=>true) true m 60 [e4]=some y4:=by have:=hf 4 _ rfl;simpa [cLX] using this
   have f5:DataW.trod enc Tryz.prog W 0 (fun _=>true) true m 49 [e5]=some y5:=by have:=hf 5 _ rfl;simpa [ya8] using this
   have f6:DataW.trod enc Tryz.prog W 0 (fun _=>true) true m 3 [e6]=some y6:=by have:=hf 6 _ rfl;simpa [cI] using this
   obtain ⟨w0,w1,w2,w3,w4,w5,w6,_⟩:=hw;obtain ⟨n0,z0,_,v0⟩:=DataW.trod_string Tryz.underlying9 f0;simp at z0;subst z0;obtain ⟨n1,v1⟩:=zy4 f1 w1;obtain ⟨n2,z2,_,v2⟩:=vci Tryz.underlying3 f2;simp at z2;subst z2;obtain ⟨n3,v3⟩:=zf6 (α:=Gi) Tryz.underlying59 yah (by omega) (by rw [ya5];omega) Gi.ds (fun n _=>z6l n) f3 w3;obtain ⟨n4,v4⟩:=zf6 (α:=Gf) Tryz.underlying60 yai (by omega) (by rw [ya6];omega) Gf.ds (fun n _=>z6m n) f4 w4;obtain ⟨n5,v5⟩:=z0x f5 w5;obtain ⟨n6,z6,_,v6⟩:=vci Tryz.underlying3 f6;simp at z6;subst z6;refine ⟨(⟨n0,n1,n2,n3,n4,n5,n6⟩:Ob),.cons (zeu v0) (.cons v1 (.cons (zdl v2) (.cons v3 (.cons v4 (.cons v5 (.cons (zdl v6) .nil)))))),fun x k y NR=>?_⟩;simp at NR;subst NR
   rcases vdw Tryz.underlying22 f1 with ⟨Bl,_⟩ | ⟨a,len,cap,elems,rest,n,_,Bl,_,_,hl,_⟩
   . simp at Bl;omega
   . simp at Bl;omega
end
end Go.Proofs.YtndkhgakfodldaaGreatDoor
