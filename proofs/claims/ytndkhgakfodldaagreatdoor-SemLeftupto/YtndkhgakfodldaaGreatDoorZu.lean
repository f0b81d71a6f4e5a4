import Derived.Test.YtndkhgakfodldaaGreatDoorOq
import Derived.Test.YtndkhgakfodldaaGreatDoorZw
import Derived.Test.YtndkhgakfodldaaGreatDoorUi
namespace Go.Proofs.YtndkhgakfodldaaGreatDoor
set_option maxRecDepth 100000
open Go.ChangeShapes Go.WideShapes Go.ChangeAt Go.RowKit Go.Deep
set_option linter.unusedVariables false
theorem z30:Tryz.prog.cellsOf 253=5:=by kernel_rfl
theorem z4s:Tryz.prog.bytesOf 253=56:=by kernel_rfl
theorem z32:Tryz.prog.cellsOf 109=7:=by kernel_rfl
theorem z4t:Tryz.prog.bytesOf 109=104:=by kernel_rfl
theorem z33:Tryz.prog.cellsOf 106=3:=by kernel_rfl
theorem z4u:Tryz.prog.bytesOf 106=40:=by kernel_rfl
theorem z34:Tryz.prog.cellsOf 42=5:=by kernel_rfl
theorem z4v:Tryz.prog.bytesOf 42=96:=by kernel_rfl
theorem cLN:Tryz.prog.cellsOf 107=1:=by kernel_rfl
theorem cLA:Tryz.prog.cellsOf 40=1:=by kernel_rfl
theorem z4w:Tryz.prog.cellsOf 39=1:=by kernel_rfl
theorem zoj:∀ l:List Nd,l.flatMap Nd.ds=zcl l
 | []=>by simp [zcl]
 | x :: r=>by simp [zcl,zoj r]
theorem zok:∀ l:List Ac,l.flatMap Ac.ds=zcg l
 | []=>by simp [zcg]
 | x :: r=>by simp [zcg,zok r]
section
variable {H:Type} {enc:TypeId × Value->H} {W:World}
theorem zrq {fuel:Nat} (hel:∀ n,n<fuel->∀ cs y,DataW.trod enc Tryz.prog W 0 (fun _=>true) true n 253 cs=some y->Okw 253 y.1->∃ z:Nd,DVals W Tu z.ds cs) {c:Value} {x:DataW H × List MemPlace} (h:DataW.trod enc Tryz.prog W 0 (fun _=>true) true fuel 107 [c]=some x) (hw:Okw 107 x.1):∃ l:List Nd,zck W Tu (.list l.length (zcl l)) c:=by
 obtain ⟨l,hl⟩:=zgv (α:=Nd) Tryz.underlying107 z30 (by omega) (by rw [z4s];omega) Nd.ds hel h hw;rw [zoj] at hl;exact ⟨l,hl⟩
theorem z04 (fuel:Nat):∀ cs y,DataW.trod enc Tryz.prog W 0 (fun _=>true) true fuel 253 cs=some y->Okw 253 y.1->∃ z:Nd,DVals W Tu z.ds cs:=by
 induction fuel using Nat.strongRecOn with
 | ind fuel ih=>
 intro cs y h hw;obtain ⟨xs,m,hm,hx,hl,hlen,hf⟩:=vdc Tryz.underlying253 h;subst hx;rw [z30] at hl
 match xs,hlen,cs,hl with
 | [y0,y1,y2,y3,y4],_,[e0,e1,e2,e3,e4],_=>
   simp only [Okw,DataW.weights,Tryz.underlying253,vcl,vdx,DataW.weightsEach,vbj,vae,vdk] at hw
   have f0:DataW.trod enc Tryz.prog W 0 (fun _=>true) true m 3 [e0]=some y0:=by have:=hf 0 _ rfl;simpa [cI] using this
   have f1:DataW.trod enc Tryz.prog W 0 (fun _=>true) true m 3 [e1]=some y1:=by have:=hf 1 _ rfl;simpa [cI] using this
   have f2:DataW.trod enc Tryz.prog W 0 (fun _=>true) true m 3 [e2]=some y2:=by have:=hf 2 _ rfl;simpa [cI] using this
   have f3:DataW.trod enc Tryz.prog W 0 (fun _=>true) true m 3 [e3]=some y3:=by have:=hf 3 _ rfl;simpa [cI] using this
   have f4:DataW.trod enc Tryz.prog W 0 (fun _=>true) true m 107 [e4]=some y4:=by have:=hf 4 _ rfl;simpa [cLN] using this
   obtain ⟨w0,w1,w2,w3,w4,_⟩:=hw;obtain ⟨n0,z0,_,v0⟩:=vbr Tryz.underlying3 f0;simp at z0;subst z0;obtain ⟨n1,z1,_,v1⟩:=vbr Tryz.underlying3 f1;simp at z1;subst z1;obtain ⟨n2,z2,_,v2⟩:=vbr Tryz.underlying3 f2;simp at z2;subst z2;obtain ⟨n3,z3,_,v3⟩:=vbr Tryz.underlying3 f3;simp at z3;subst z3;obtain ⟨n4,v4⟩:=zrq (fun n hn=>ih n (by omega)) f4 w4;exact ⟨.mk n0 n1 n2 n3 n4,.cons (dint v0) (.cons (dint v1) (.cons (dint v2) (.cons (dint v3) (.cons v4 .nil))))⟩
theorem zy0 {fuel:Nat} {c:Value} {x:DataW H × List MemPlace} (h:DataW.trod enc Tryz.prog W 0 (fun _=>true) true fuel 107 [c]=some x) (hw:Okw 107 x.1):∃ l:List Nd,zck W Tu (.list l.length (zcl l)) c:=zrq (fun n _=>z04 n) h hw
theorem zmw {fuel:Nat} (hel:∀ n,n<fuel->∀ cs y,DataW.trod enc Tryz.prog W 0 (fun _=>true) true n 109 cs=some y->Okw 109 y.1->∃ z:Ac,DVals W Tu z.ds cs) {c:Value} {x:DataW H × List MemPlace} (h:DataW.trod enc Tryz.prog W 0 (fun _=>true) true fuel 40 [c]=some x) (hw:Okw 40 x.1):∃ l:List Ac,zck W Tu (.list l.length (zcg l)) c:=by
 obtain ⟨l,hl⟩:=zgv (α:=Ac) Tryz.underlying40 z32 (by omega) (by rw [z4t];omega) Ac.ds hel h hw;rw [zok] at hl;exact ⟨l,hl⟩
theorem z05 (fuel:Nat):∀ cs y,DataW.trod enc Tryz.prog W 0 (fun _=>true) true fuel 109 cs=some y->Okw 109 y.1->∃ z:Ac,DVals W Tu z.ds cs:=by
 induction fuel using Nat.strongRecOn with
 | ind fuel ih=>
 intro cs y h hw;obtain ⟨xs,m,hm,hx,hl,hlen,hf⟩:=vdc Tryz.underlying109 h;subst hx;rw [z32] at hl
 match xs,hlen,cs,hl with
 | [y0,y1,y2,y3,y4,y5,y6],_,[e0,e1,e2,e3,e4,e5,e6],_=>
   simp only [Okw,DataW.weights,Tryz.underlying109,vcl,vdx,DataW.weightsEach,vbj,vae,vdk] at hw
   have f0:DataW.trod enc Tryz.prog W 0 (fun _=>true) true m 3 [e0]=some y0:=by have:=hf 0 _ rfl;simpa [cI] using this
   have f1:DataW.trod enc Tryz.prog W 0 (fun _=>true) true m 3 [e1]=some y1:=by have:=hf 1 _ rfl;simpa [cI] using this
   have f2:DataW.trod enc Tryz.prog W 0 (fun _=>true) true m 3 [e2]=some y2:=by have:=hf 2 _ rfl;simpa [cI] using this
   have f3:DataW.trod enc Tryz.prog W 0 (fun _=>true) true m 3 [e3]=some y3:=by have:=hf 3 _ rfl;simpa [cI] using this
   have f4:DataW.trod enc Tryz.prog W 0 (fun _=>true) true m 107 [e4]=some y4:=by have:=hf 4 _ rfl;simpa [cLN] using this
   have f5:DataW.trod enc Tryz.prog W 0 (fun _=>true) true m 40 [e5]=some y5:=by have:=hf 5 _ rfl;simpa [cLA] using this
   have f6:DataW.trod enc Tryz.prog W 0 (fun _=>true) true m 40 [e6]=some y6:=by have:=hf 6 _ rfl;simpa [cLA] using this
   obtain ⟨w0,w1,w2,w3,w4,w5,w6,_⟩:=hw;obtain ⟨n0,z0,_,v0⟩:=vbr Tryz.underlying3 f0;simp at z0;subst z0;obtain ⟨n1,z1,_,v1⟩:=vbr Tryz.underlying3 f1;simp at z1;subst z1;obtain ⟨n2,z2,_,v2⟩:=vbr Tryz.underlying3 f2;simp at z2;subst z2;obtain ⟨n3,z3,_,v3⟩:=vbr Tryz.underlying3 f3;simp at z3;subst z3;obtain ⟨n4,v4⟩:=zy0 f4 w4;obtain ⟨n5,v5⟩:=zmw (fun n hn=>ih n (by omega)) f5 w5;obtain ⟨n6,v6⟩:=zmw (fun n hn=>ih n (by omega)) f6 w6;exact ⟨.mk n0 n1 n2 n3 n4 n5 n6,.cons (dint v0) (.cons (dint v1) (.cons (dint v2) (.cons (dint v3) (.cons v4 (.cons v5 (.cons v6 .nil))))))⟩
theorem zrr {fuel:Nat} {c:Value} {x:DataW H × List MemPlace} (h:DataW.trod enc Tryz.prog W 0 (fun _=>true) true fuel 40 [c]=some x) (hw:Okw 40 x.1):∃ l:List Ac,zck W Tu (.list l.length (zcg l)) c:=zmw (fun n _=>z05 n) h hw
theorem z06 (fuel:Nat):∀ cs y,DataW.trod enc Tryz.prog W 0 (fun _=>true) true fuel 106 cs=some y->Okw 106 y.1->∃ z:Pt,DVals W Tu z.ds cs:=by
 intro cs y h hw;obtain ⟨xs,m,hm,hx,hl,hlen,hf⟩:=vdc Tryz.underlying106 h;subst hx;rw [z33] at hl
 match xs,hlen,cs,hl with
 | [y0,y1,y2],_,[e0,e1,e2],_=>
   simp only [Okw,DataW.weights,Tryz.underlying106,vcl,vdx,DataW.weightsEach,vbj,vae,vdk] at hw
   have f0:DataW.trod enc Tryz.prog W 0 (fun _=>true) true m 3 [e0]=some y0:=by have:=hf 0 _ rfl;simpa [cI] using this
   have f1:DataW.trod enc Tryz.prog W 0 (fun _=>true) true m 3 [e1]=some y1:=by have:=hf 1 _ rfl;simpa [cI] using this
   have f2:DataW.trod enc Tryz.prog W 0 (fun _=>true) true m 40 [e2]=some y2:=by have:=hf 2 _ rfl;simpa [cLA] using this
   obtain ⟨w0,w1,w2,_⟩:=hw;obtain ⟨n0,z0,_,v0⟩:=vbr Tryz.underlying3 f0;simp at z0;subst z0;obtain ⟨n1,z1,_,v1⟩:=vbr Tryz.underlying3 f1;simp at z1;subst z1;obtain ⟨n2,v2⟩:=zrr f2 w2;exact ⟨(⟨n0,n1,n2⟩:Pt),.cons (dint v0) (.cons (dint v1) (.cons v2 .nil))⟩
theorem z07 (fuel:Nat):∀ cs y,DataW.trod enc Tryz.prog W 0 (fun _=>true) true fuel 42 cs=some y->Okw 42 y.1->∃ z:Un,DVals W Tu z.ds cs/\(Rows.uptoBulk y.1<=1048576->z.uses.length<=1048576):=by
 intro cs y h hw;obtain ⟨xs,m,hm,hx,hl,hlen,hf⟩:=vdc Tryz.underlying42 h;subst hx;rw [z34] at hl
 match xs,hlen,cs,hl with
 | [y0,y1,y2,y3,y4],_,[e0,e1,e2,e3,e4],_=>
   simp only [Okw,DataW.weights,Tryz.underlying42,vcl,vdx,DataW.weightsEach,vbj,vae,vdk] at hw
   have f0:DataW.trod enc Tryz.prog W 0 (fun _=>true) true m 9 [e0]=some y0:=by have:=hf 0 _ rfl;simpa [cS] using this
   have f1:DataW.trod enc Tryz.prog W 0 (fun _=>true) true m 22 [e1]=some y1:=by have:=hf 1 _ rfl;simpa [cLT] using this
   have f2:DataW.trod enc Tryz.prog W 0 (fun _=>true) true m 3 [e2]=some y2:=by have:=hf 2 _ rfl;simpa [cI] using this
   have f3:DataW.trod enc Tryz.prog W 0 (fun _=>true) true m 39 [e3]=some y3:=by have:=hf 3 _ rfl;simpa [z4w] using this
   have f4:DataW.trod enc Tryz.prog W 0 (fun _=>true) true m 40 [e4]=some y4:=by have:=hf 4 _ rfl;simpa [cLA] using this
   obtain ⟨w0,w1,w2,w3,w4,_⟩:=hw;obtain ⟨n0,z0,_,v0⟩:=DataW.trod_string Tryz.underlying9 f0;simp at z0;subst z0;obtain ⟨n1,v1,b1⟩:=zsb f1 w1;obtain ⟨n2,z2,_,v2⟩:=vbr Tryz.underlying3 f2;simp at z2;subst z2;obtain ⟨n3,v3⟩:=zgv (α:=Pt) Tryz.underlying39 z33 (by omega) (by rw [z4u];omega) Pt.ds (fun n _=>z06 n) f3 w3;obtain ⟨n4,v4⟩:=zrr f4 w4;refine ⟨(⟨n0,n1,n2,n3,n4⟩:Un),.cons (zd6 v0) (.cons v1 (.cons (dint v2) (.cons v3 (.cons v4 .nil)))),fun hb=>?_⟩;have hb':Rows.uptoBulk (DataW.agg [y0.1,y1.1,y2.1,y3.1,y4.1])<=1048576:=hb;simp only [Rows.uptoBulk,Rows.uptoBulkAll] at hb';exact b1 (by omega)
theorem zy1 {fuel:Nat} {c:Value} {x:DataW H × List MemPlace} (h:DataW.trod enc Tryz.prog W 0 (fun _=>true) true fuel 48 [c]=some x) (hw:Okw 48 x.1):∃ l:List Un,zck W Tu (.list l.length (zfs l)) c/\(Rows.uptoBulk x.1<=1048576->∀ u ∈ l,u.uses.length<=1048576):=by
 obtain ⟨l,hl,hb⟩:=zkt (α:=Un) Tryz.underlying48 z34 (by omega) (by rw [z4v];omega) Un.ds (fun z=>z.uses.length<=1048576) (fun n _=>z07 n) h hw;exact ⟨l,hl,fun h=>(hb h).2⟩
end
end Go.Proofs.YtndkhgakfodldaaGreatDoor
