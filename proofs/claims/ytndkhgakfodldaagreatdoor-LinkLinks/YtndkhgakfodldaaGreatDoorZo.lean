import Derived.Test.YtndkhgakfodldaaGreatDoorZw
import Derived.Test.YtndkhgakfodldaaGreatDoorUt
namespace Go.Proofs.YtndkhgakfodldaaGreatDoor
set_option maxRecDepth 100000
open Go.ChangeShapes Go.WideShapes Go.ChangeAt Go.RowKit Go.Deep
set_option linter.unusedVariables false
theorem z9a:Tryz.prog.cellsOf 69=3:=by kernel_rfl
theorem z9z:Tryz.prog.bytesOf 69=24:=by kernel_rfl
theorem z9b:Tryz.prog.cellsOf 67=3:=by kernel_rfl
theorem z90:Tryz.prog.bytesOf 67=24:=by kernel_rfl
theorem z80:Tryz.prog.cellsOf 62=7:=by kernel_rfl
theorem z91:Tryz.prog.bytesOf 62=128:=by kernel_rfl
theorem cLG:Tryz.prog.cellsOf 59=1:=by kernel_rfl
theorem cLX:Tryz.prog.cellsOf 60=1:=by kernel_rfl
theorem z92:Tryz.prog.cellsOf 49=1:=by kernel_rfl
theorem bI_:Tryz.prog.bytesOf 3=8:=by kernel_rfl
theorem zzh (l:List Int):l.flatMap (fun n=>[D.int n])=zfm l:=by
 induction l with
 | nil=>rfl
 | cons x r ih=>simp only [vbj,ih,zfm,vcm];rfl
section
variable {H:Type} {enc:TypeId × Value->H} {W:World}
theorem zzi {Az:Nat} {c:Value} {x:DataW H × List MemPlace} (h:DataW.trod enc Tryz.prog W 0 (fun _=>true) true Az 49 [c]=some x) (hw:Okw 49 x.1):∃ l:List Int,zcv W Tu (.list l.length (zfm l)) c:=by
 obtain ⟨l,hl⟩:=zfu (α:=Int) Tryz.underlying49 cI (by omega) (by rw [bI_];omega) (fun n=>[D.int n]) (fun n _ cs y hy _=>by
  obtain ⟨s,rfl,_,hs⟩:=vci Tryz.underlying3 hy
  exact ⟨s,.cons (zc6 hs) .nil⟩) h hw
 rw [zzh] at hl;exact ⟨l,hl⟩
theorem z45 (Az:Nat):∀ cs y,DataW.trod enc Tryz.prog W 0 (fun _=>true) true Az 69 cs=some y->Okw 69 y.1->∃ z:Gi,zan W Tu z.ds cs:=by
 intro cs y h hw;obtain ⟨xs,m,hm,hx,hl,Ai,hf⟩:=veb Tryz.underlying69 h;subst hx;rw [z9a] at hl
 match xs,Ai,cs,hl with
 | [y0,y1,y2],_,[e0,e1,e2],_=>
   simp only [Okw,DataW.weights,Tryz.underlying69,vcm,vdv,DataW.weightsEach,vbo,vab,vei] at hw
   have f0:DataW.trod enc Tryz.prog W 0 (fun _=>true) true m 3 [e0]=some y0:=by have:=hf 0 _ rfl;simpa [cI] using this
   have f1:DataW.trod enc Tryz.prog W 0 (fun _=>true) true m 3 [e1]=some y1:=by have:=hf 1 _ rfl;simpa [cI] using this
   have f2:DataW.trod enc Tryz.prog W 0 (fun _=>true) true m 3 [e2]=some y2:=by have:=hf 2 _ rfl;simpa [cI] using this
   obtain ⟨w0,w1,w2,_⟩:=hw;obtain ⟨n0,z0,_,v0⟩:=vci Tryz.underlying3 f0;simp at z0;subst z0;obtain ⟨n1,z1,_,v1⟩:=vci Tryz.underlying3 f1;simp at z1;subst z1;obtain ⟨n2,z2,_,v2⟩:=vci Tryz.underlying3 f2;simp at z2;subst z2;exact ⟨(⟨n0,n1,n2⟩:Gi),.cons (zc6 v0) (.cons (zc6 v1) (.cons (zc6 v2) .nil))⟩
theorem z47 (Az:Nat):∀ cs y,DataW.trod enc Tryz.prog W 0 (fun _=>true) true Az 67 cs=some y->Okw 67 y.1->∃ z:Gf,zan W Tu z.ds cs:=by
 intro cs y h hw;obtain ⟨xs,m,hm,hx,hl,Ai,hf⟩:=veb Tryz.underlying67 h;subst hx;rw [z9b] at hl
 match xs,Ai,cs,hl with
 | [y0,y1,y2],_,[e0,e1,e2],_=>
   simp only [Okw,DataW.weights,Tryz.underlying67,vcm,vdv,DataW.weightsEach,vbo,vab,vei] at hw
   have f0:DataW.trod enc Tryz.prog W 0 (fun _=>true) true m 3 [e0]=some y0:=by have:=hf 0 _ rfl;simpa [cI] using this
   have f1:DataW.trod enc Tryz.prog W 0 (fun _=>true) true m 3 [e1]=some y1:=by have:=hf 1 _ rfl;simpa [cI] using this
   have f2:DataW.trod enc Tryz.prog W 0 (fun _=>true) true m 3 [e2]=some y2:=by have:=hf 2 _ rfl;simpa [cI] using this
   obtain ⟨w0,w1,w2,_⟩:=hw;obtain ⟨n0,z0,_,v0⟩:=vci Tryz.underlying3 f0;simp at z0;subst z0;obtain ⟨n1,z1,_,v1⟩:=vci Tryz.underlying3 f1;simp at z1;subst z1;obtain ⟨n2,z2,_,v2⟩:=vci Tryz.underlying3 f2;simp at z2;subst z2;exact ⟨(⟨n0,n1,n2⟩:Gf),.cons (zc6 v0) (.cons (zc6 v1) (.cons (zc6 v2) .nil))⟩
theorem zzj (Az:Nat):∀ cs y,DataW.trod enc Tryz.prog W 0 (fun _=>true) true Az 62 cs=some y->Okw 62 y.1->∃ z:Ob,zan W Tu z.ds cs/\∀ x k y,cs[1]? = some (.slice x k y)->k<=y:=by
 intro cs y h hw;obtain ⟨xs,m,hm,hx,hl,Ai,hf⟩:=veb Tryz.underlying62 h;subst hx;rw [z80] at hl
 match xs,Ai,cs,hl with
 | [y0,y1,y2,y3,y4,y5,y6],_,[e0,e1,e2,e3,e4,e5,e6],_=>
   simp only [Okw,DataW.weights,Tryz.underlying62,vcm,vdv,DataW.weightsEach,vbo,vab,vei] at hw
   have f0:DataW.trod enc Tryz.prog W 0 (fun _=>true) true m 9 [e0]=some y0:=by have:=hf 0 _ rfl;simpa [cS] using this
   have f1:DataW.trod enc Tryz.prog W 0 (fun _=>true) true m 22 [e1]=some y1:=by have:=hf 1 _ rfl;simpa [cLT] using this
   have f2:DataW.trod enc Tryz.prog W 0 (fun _=>true) true m 3 [e2]=some y2:=by have:=hf 2 _ rfl;simpa [cI] using this
   have f3:DataW.trod enc Tryz.prog W 0 (fun _=>true) true m 59 [e3]=some y3:=by have:=hf 3 _ rfl;simpa [cLG] using this
   have f4:DataW.trod enc Tryz.prog W 0 (fun _=>true) true m 60 [e4]=some y4:=by have:=hf 4 _ rfl;simpa [cLX] using this
   have f5:DataW.trod enc Tryz.prog W 0 (fun _=>true) true m 49 [e5]=some y5:=by have:=hf 5 _ rfl;simpa [z92] using this
   have f6:DataW.trod enc Tryz.prog W 0 (fun _=>true) true m 3 [e6]=some y6:=by have:=hf 6 _ rfl;simpa [cI] using this
   obtain ⟨w0,w1,w2,w3,w4,w5,w6,_⟩:=hw;obtain ⟨n0,z0,_,v0⟩:=DataW.trod_string Tryz.underlying9 f0;simp at z0;subst z0;obtain ⟨n1,v1⟩:=zxg f1 w1;obtain ⟨n2,z2,_,v2⟩:=vci Tryz.underlying3 f2;simp at z2;subst z2;obtain ⟨n3,v3⟩:=zfu (α:=Gi) Tryz.underlying59 z9a (by omega) (by rw [z9z];omega) Gi.ds (fun n _=>z45 n) f3 w3;obtain ⟨n4,v4⟩:=zfu (α:=Gf) Tryz.underlying60 z9b (by omega) (by rw [z90];omega) Gf.ds (fun n _=>z47 n) f4 w4;obtain ⟨n5,v5⟩:=zzi f5 w5;obtain ⟨n6,z6,_,v6⟩:=vci Tryz.underlying3 f6;simp at z6;subst z6;refine ⟨(⟨n0,n1,n2,n3,n4,n5,n6⟩:Ob),.cons (zed v0) (.cons v1 (.cons (zc6 v2) (.cons v3 (.cons v4 (.cons v5 (.cons (zc6 v6) .nil)))))),fun x k y NX=>?_⟩;simp at NX;subst NX
   rcases vdk Tryz.underlying22 f1 with ⟨AY,_⟩ | ⟨a,len,cap,elems,rest,n,_,AY,_,_,hl,_⟩
   . simp at AY;omega
   . simp at AY;omega
end
end Go.Proofs.YtndkhgakfodldaaGreatDoor
