import Derived.Test.YtndkhgakfodldaaGreatDoorZw
import Derived.Test.YtndkhgakfodldaaGreatDoorUt
namespace Go.Proofs.YtndkhgakfodldaaGreatDoor
set_option maxRecDepth 100000
open Go.ChangeShapes Go.WideShapes Go.ChangeAt Go.RowKit Go.Deep
set_option linter.unusedVariables false
theorem yaw:Tryz.prog.cellsOf 69=3:=by kernel_rfl
theorem yba:Tryz.prog.bytesOf 69=24:=by kernel_rfl
theorem yax:Tryz.prog.cellsOf 67=3:=by kernel_rfl
theorem ybb:Tryz.prog.bytesOf 67=24:=by kernel_rfl
theorem yay:Tryz.prog.cellsOf 62=7:=by kernel_rfl
theorem cLG:Tryz.prog.cellsOf 59=1:=by kernel_rfl
theorem cLX:Tryz.prog.cellsOf 60=1:=by kernel_rfl
theorem ybc:Tryz.prog.cellsOf 49=1:=by kernel_rfl
theorem bI_:Tryz.prog.bytesOf 3=8:=by kernel_rfl
theorem z2d (l:List Int):l.flatMap (fun n=>[D.int n])=zk8 l:=by
 induction l with
 | nil=>rfl
 | cons x r ih=>simp only [vbg,ih,zk8,vcz];rfl
section
variable {H:Type} {enc:TypeId × Value->H} {W:World}
theorem z2e {fuel:Nat} {c:Value} {x:DataW H × List MemPlace} (h:DataW.trod enc Tryz.prog W 0 (fun _=>true) true fuel 49 [c]=some x) (hw:Okw 49 x.1):∃ l:List Int,zd0 W Tu (.list l.length (zk8 l)) c:=by
 obtain ⟨l,hl⟩:=zi5 (α:=Int) Tryz.underlying49 cI (by omega) (by rw [bI_];omega) (fun n=>[D.int n]) (fun n _ cs y hy _=>by
  obtain ⟨s,rfl,_,hs⟩:=vcr Tryz.underlying3 hy
  exact ⟨s,.cons (zdk hs) .nil⟩) h hw
 rw [z2d] at hl;exact ⟨l,hl⟩
theorem z7p (fuel:Nat):∀ cs y,DataW.trod enc Tryz.prog W 0 (fun _=>true) true fuel 69 cs=some y->Okw 69 y.1->∃ z:Gi,zav W Tu z.ds cs:=by
 intro cs y h hw;obtain ⟨xs,m,hm,hx,hl,hlen,hf⟩:=ved Tryz.underlying69 h;subst hx;rw [yaw] at hl
 match xs,hlen,cs,hl with
 | [y0,y1,y2],_,[e0,e1,e2],_=>
   simp only [Okw,DataW.weights,Tryz.underlying69,vcz,vej,DataW.weightsEach,vch,vad,vek] at hw
   have f0:DataW.trod enc Tryz.prog W 0 (fun _=>true) true m 3 [e0]=some y0:=by have:=hf 0 _ rfl;simpa [cI] using this
   have f1:DataW.trod enc Tryz.prog W 0 (fun _=>true) true m 3 [e1]=some y1:=by have:=hf 1 _ rfl;simpa [cI] using this
   have f2:DataW.trod enc Tryz.prog W 0 (fun _=>true) true m 3 [e2]=some y2:=by have:=hf 2 _ rfl;simpa [cI] using this
   obtain ⟨w0,w1,w2,_⟩:=hw;obtain ⟨n0,z0,_,v0⟩:=vcr Tryz.underlying3 f0;simp at z0;subst z0;obtain ⟨n1,z1,_,v1⟩:=vcr Tryz.underlying3 f1;simp at z1;subst z1;obtain ⟨n2,z2,_,v2⟩:=vcr Tryz.underlying3 f2;simp at z2;subst z2;exact ⟨(⟨n0,n1,n2⟩:Gi),.cons (zdk v0) (.cons (zdk v1) (.cons (zdk v2) .nil))⟩
theorem z7q (fuel:Nat):∀ cs y,DataW.trod enc Tryz.prog W 0 (fun _=>true) true fuel 67 cs=some y->Okw 67 y.1->∃ z:Gf,zav W Tu z.ds cs:=by
 intro cs y h hw;obtain ⟨xs,m,hm,hx,hl,hlen,hf⟩:=ved Tryz.underlying67 h;subst hx;rw [yax] at hl
 match xs,hlen,cs,hl with
 | [y0,y1,y2],_,[e0,e1,e2],_=>
   simp only [Okw,DataW.weights,Tryz.underlying67,vcz,vej,DataW.weightsEach,vch,vad,vek] at hw
   have f0:DataW.trod enc Tryz.prog W 0 (fun _=>true) true m 3 [e0]=some y0:=by have:=hf 0 _ rfl;simpa [cI] using this
   have f1:DataW.trod enc Tryz.prog W 0 (fun _=>true) true m 3 [e1]=some y1:=by have:=hf 1 _ rfl;simpa [cI] using this
   have f2:DataW.trod enc Tryz.prog W 0 (fun _=>true) true m 3 [e2]=some y2:=by have:=hf 2 _ rfl;simpa [cI] using this
   obtain ⟨w0,w1,w2,_⟩:=hw;obtain ⟨n0,z0,_,v0⟩:=vcr Tryz.underlying3 f0;simp at z0;subst z0;obtain ⟨n1,z1,_,v1⟩:=vcr Tryz.underlying3 f1;simp at z1;subst z1;obtain ⟨n2,z2,_,v2⟩:=vcr Tryz.underlying3 f2;simp at z2;subst z2;exact ⟨(⟨n0,n1,n2⟩:Gf),.cons (zdk v0) (.cons (zdk v1) (.cons (zdk v2) .nil))⟩
theorem z7r (fuel:Nat):∀ cs y,DataW.trod enc Tryz.prog W 0 (fun _=>true) true fuel 62 cs=some y->Okw 62 y.1->∃ z:Ob,zav W Tu z.ds cs/\∀ x k y,cs[1]? = some (.slice x k y)->k<=y:=by
 intro cs y h hw;obtain ⟨xs,m,hm,hx,hl,hlen,hf⟩:=ved Tryz.underlying62 h;subst hx;rw [yay] at hl
 match xs,hlen,cs,hl with
 | [y0,y1,y2,y3,y4,y5,y6],_,[e0,e1,e2,e3,e4,e5,e6],_=>
   simp only [Okw,DataW.weights,Tryz.underlying62,vcz,vej,DataW.weightsEach,vch,vad,vek] at hw
   have f0:DataW.trod enc Tryz.prog W 0 (fun _=>true) true m 9 [e0]=some y0:=by have:=hf 0 _ rfl;simpa [cS] using this
   have f1:DataW.trod enc Tryz.prog W 0 (fun _=>true) true m 22 [e1]=some y1:=by have:=hf 1 _ rfl;simpa [cLT] using this
   have f2:DataW.trod enc Tryz.prog W 0 (fun _=>true) true m 3 [e2]=some y2:=by have:=hf 2 _ rfl;simpa [cI] using this
   have f3:DataW.trod enc Tryz.prog W 0 (fun _=>true) true m 59 [e3]=some y3:=by have:=hf 3 _ rfl;simpa [cLG] using this
   have f4:DataW.trod enc Tryz.prog W 0 (fun _=>true) true m 60 [e4]=some y4:=by have:=hf 4 _ rfl;simpa [cLX] using this
   have f5:DataW.trod enc Tryz.prog W 0 (fun _=>true) true m 49 [e5]=some y5:=by have:=hf 5 _ rfl;simpa [ybc] using this
   have f6:DataW.trod enc Tryz.prog W 0 (fun _=>true) true m 3 [e6]=some y6:=by have:=hf 6 _ rfl;simpa [cI] using this
   obtain ⟨w0,w1,w2,w3,w4,w5,w6,_⟩:=hw;obtain ⟨n0,z0,_,v0⟩:=DataW.trod_string Tryz.underlying9 f0;simp at z0;subst z0;obtain ⟨n1,v1⟩:=z0b f1 w1;obtain ⟨n2,z2,_,v2⟩:=vcr Tryz.underlying3 f2;simp at z2;subst z2;obtain ⟨n3,v3⟩:=zi5 (α:=Gi) Tryz.underlying59 yaw (by omega) (by rw [yba];omega) Gi.ds (fun n _=>z7p n) f3 w3;obtain ⟨n4,v4⟩:=zi5 (α:=Gf) Tryz.underlying60 yax (by omega) (by rw [ybb];omega) Gf.ds (fun n _=>z7q n) f4 w4;obtain ⟨n5,v5⟩:=z2e f5 w5;obtain ⟨n6,z6,_,v6⟩:=vcr Tryz.underlying3 f6;simp at z6;subst z6;refine ⟨(⟨n0,n1,n2,n3,n4,n5,n6⟩:Ob),.cons (zfl v0) (.cons v1 (.cons (zdk v2) (.cons v3 (.cons v4 (.cons v5 (.cons (zdk v6) .nil)))))),fun x k y hxy=>?_⟩;simp at hxy;subst hxy
   rcases DataW.trod_slice Tryz.underlying22 f1 with ⟨hcs,_⟩ | ⟨a,len,cap,elems,rest,n,_,hcs,_,_,hl,_⟩
   . simp at hcs;omega
   . simp at hcs;omega
theorem zvh {v:Value} {d:DataW H} {p:List MemPlace} {r:Reach} {base:Nat} (hv:Value.okWide Tryz.prog W r base 62 v)
 (h:DataW.Trod enc Tryz.prog W 0 (fun _=>true) true 62 v d p) (hw:Okw 62 d) :
 ∃ (o:Ob) (x1:OA) (y1:Nat) (x3:OA) (y3:Nat) (x4:OA) (y4:Nat) (x5:OA) (y5:Nat),v = .agg #[.string o.name,.slice x1 o.uses.length y1,.int .i64 o.data,.slice x3 o.code.length y3,.slice x4 o.fixes.length y4,.slice x5 o.entries.length y5,.int .i64 o.main]/\OvAt W o x1 x3 x4 x5/\o.uses.length<=y1:=by
 obtain ⟨cs,rfl,hsz⟩:=okWide_struct Tryz.underlying62 hv;obtain ⟨fuel,hf⟩:=h;obtain ⟨o,hm,hcap⟩:=z7r fuel _ _ hf hw;rw [yay] at hsz;obtain ⟨cs⟩:=cs
 match cs,hsz with
 | [e0,e1,e2,e3,e4,e5,e6],_=>
   have hm':zav W Tu o.ds [e0,e1,e2,e3,e4,e5,e6]:=hm
   have g:=fun j x h=>hm'.get j x h
   obtain ⟨v0,k0,d0⟩:=g 0 _ rfl;obtain ⟨v1,k1,d1⟩:=g 1 _ rfl;obtain ⟨v2,k2,d2⟩:=g 2 _ rfl;obtain ⟨v3,k3,d3⟩:=g 3 _ rfl;obtain ⟨v4,k4,d4⟩:=g 4 _ rfl;obtain ⟨v5,k5,d5⟩:=g 5 _ rfl;obtain ⟨v6,k6,d6⟩:=g 6 _ rfl;simp at k0 k1 k2 k3 k4 k5 k6;subst k0 k1 k2 k3 k4 k5 k6;obtain ⟨rfl,hn⟩:=zdd d0;obtain ⟨x1,y1,rfl,h1⟩:=za3 d1;obtain ⟨rfl,w2⟩:=zbb d2;obtain ⟨x3,y3,rfl,h3⟩:=za3 d3;obtain ⟨x4,y4,rfl,h4⟩:=za3 d4;obtain ⟨x5,y5,rfl,h5⟩:=za3 d5;obtain ⟨rfl,w6⟩:=zbb d6;exact ⟨o,x1,y1,x3,y3,x4,y4,x5,y5,rfl,⟨hn,h1,w2,h3,h4,h5,w6⟩,hcap _ _ _ rfl⟩
end
end Go.Proofs.YtndkhgakfodldaaGreatDoor
