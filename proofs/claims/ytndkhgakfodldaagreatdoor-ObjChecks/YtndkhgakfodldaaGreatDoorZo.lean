/-
  Objects and numbers that came in.
-/
import Derived.Test.YtndkhgakfodldaaGreatDoorOl
import Derived.Test.YtndkhgakfodldaaGreatDoorZw
import Derived.Test.YtndkhgakfodldaaGreatDoorNo
import Derived.Test.YtndkhgakfodldaaGreatDoorMd
namespace Go.Proofs.YtndkhgakfodldaaGreatDoor
set_option maxRecDepth 100000
open Go.ChangeShapes Go.WideShapes Go.ChangeAt Go.RowKit Go.Deep
set_option linter.unusedVariables false
theorem cGi_:Tryz.prog.cellsOf 69=3:=by kernel_rfl
theorem bGi_:Tryz.prog.bytesOf 69=24:=by kernel_rfl
theorem cGf_:Tryz.prog.cellsOf 67=3:=by kernel_rfl
theorem bGf_:Tryz.prog.bytesOf 67=24:=by kernel_rfl
theorem cOb_:Tryz.prog.cellsOf 62=7:=by kernel_rfl
theorem cLG:Tryz.prog.cellsOf 59=1:=by kernel_rfl
theorem cLX:Tryz.prog.cellsOf 60=1:=by kernel_rfl
theorem cLN8:Tryz.prog.cellsOf 49=1:=by kernel_rfl
theorem bI_:Tryz.prog.bytesOf 3=8:=by kernel_rfl
theorem ints_flat (l:List Int):l.flatMap (fun n=>[D.int n])=intD l:=by
 induction l with
 | nil=>rfl
 | cons x r ih=>simp only [List.flatMap_cons,ih,intD,List.map_cons];rfl
section
variable {H:Type} {enc:TypeId × Value->H} {W:World}
theorem open_nums {fuel:Nat} {c:Value} {x:DataW H × List MemPlace} (h:DataW.trod enc Tryz.prog W 0 (fun _=>true) true fuel 49 [c]=some x) (hw:Okw 49 x.1):∃ l:List Int,DVal W Tu (.list l.length (intD l)) c:=by
 obtain ⟨l,hl⟩:=open_list (α:=Int) Tryz.underlying49 cI (by omega) (by rw [bI_];omega) (fun n=>[D.int n]) (fun n _ cs y hy _=>by
  obtain ⟨s,rfl,_,hs⟩:=DataW.trod_int Tryz.underlying3 hy
  exact ⟨s,.cons (dint hs) .nil⟩) h hw
 rw [ints_flat] at hl;exact ⟨l,hl⟩
theorem open_gi (fuel:Nat):∀ cs y,DataW.trod enc Tryz.prog W 0 (fun _=>true) true fuel 69 cs=some y->Okw 69 y.1->∃ z:Gi,DVals W Tu z.ds cs:=by
 intro cs y h hw;obtain ⟨xs,m,hm,hx,hl,hlen,hf⟩:=DataW.trod_struct Tryz.underlying69 h;subst hx;rw [cGi_] at hl
 match xs,hlen,cs,hl with
 | [y0,y1,y2],_,[e0,e1,e2],_=>
   simp only [Okw,DataW.weights,Tryz.underlying69,List.map_cons,List.map_nil,DataW.weightsEach,List.all_append,Bool.and_eq_true,List.all_nil] at hw
   have f0:DataW.trod enc Tryz.prog W 0 (fun _=>true) true m 3 [e0]=some y0:=by have:=hf 0 _ rfl;simpa [cI] using this
   have f1:DataW.trod enc Tryz.prog W 0 (fun _=>true) true m 3 [e1]=some y1:=by have:=hf 1 _ rfl;simpa [cI] using this
   have f2:DataW.trod enc Tryz.prog W 0 (fun _=>true) true m 3 [e2]=some y2:=by have:=hf 2 _ rfl;simpa [cI] using this
   obtain ⟨w0,w1,w2,_⟩:=hw;obtain ⟨n0,z0,_,v0⟩:=DataW.trod_int Tryz.underlying3 f0;simp at z0;subst z0;obtain ⟨n1,z1,_,v1⟩:=DataW.trod_int Tryz.underlying3 f1;simp at z1;subst z1;obtain ⟨n2,z2,_,v2⟩:=DataW.trod_int Tryz.underlying3 f2;simp at z2;subst z2;exact ⟨(⟨n0,n1,n2⟩:Gi),.cons (dint v0) (.cons (dint v1) (.cons (dint v2) .nil))⟩
theorem open_gf (fuel:Nat):∀ cs y,DataW.trod enc Tryz.prog W 0 (fun _=>true) true fuel 67 cs=some y->Okw 67 y.1->∃ z:Gf,DVals W Tu z.ds cs:=by
 intro cs y h hw;obtain ⟨xs,m,hm,hx,hl,hlen,hf⟩:=DataW.trod_struct Tryz.underlying67 h;subst hx;rw [cGf_] at hl
 match xs,hlen,cs,hl with
 | [y0,y1,y2],_,[e0,e1,e2],_=>
   simp only [Okw,DataW.weights,Tryz.underlying67,List.map_cons,List.map_nil,DataW.weightsEach,List.all_append,Bool.and_eq_true,List.all_nil] at hw
   have f0:DataW.trod enc Tryz.prog W 0 (fun _=>true) true m 3 [e0]=some y0:=by have:=hf 0 _ rfl;simpa [cI] using this
   have f1:DataW.trod enc Tryz.prog W 0 (fun _=>true) true m 3 [e1]=some y1:=by have:=hf 1 _ rfl;simpa [cI] using this
   have f2:DataW.trod enc Tryz.prog W 0 (fun _=>true) true m 3 [e2]=some y2:=by have:=hf 2 _ rfl;simpa [cI] using this
   obtain ⟨w0,w1,w2,_⟩:=hw;obtain ⟨n0,z0,_,v0⟩:=DataW.trod_int Tryz.underlying3 f0;simp at z0;subst z0;obtain ⟨n1,z1,_,v1⟩:=DataW.trod_int Tryz.underlying3 f1;simp at z1;subst z1;obtain ⟨n2,z2,_,v2⟩:=DataW.trod_int Tryz.underlying3 f2;simp at z2;subst z2;exact ⟨(⟨n0,n1,n2⟩:Gf),.cons (dint v0) (.cons (dint v1) (.cons (dint v2) .nil))⟩
theorem open_ob (fuel:Nat):∀ cs y,DataW.trod enc Tryz.prog W 0 (fun _=>true) true fuel 62 cs=some y->Okw 62 y.1->∃ z:Ob,DVals W Tu z.ds cs/\∀ x k y,cs[1]? = some (.slice x k y)->k<=y:=by
 intro cs y h hw;obtain ⟨xs,m,hm,hx,hl,hlen,hf⟩:=DataW.trod_struct Tryz.underlying62 h;subst hx;rw [cOb_] at hl
 match xs,hlen,cs,hl with
 | [y0,y1,y2,y3,y4,y5,y6],_,[e0,e1,e2,e3,e4,e5,e6],_=>
   simp only [Okw,DataW.weights,Tryz.underlying62,List.map_cons,List.map_nil,DataW.weightsEach,List.all_append,Bool.and_eq_true,List.all_nil] at hw
   have f0:DataW.trod enc Tryz.prog W 0 (fun _=>true) true m 9 [e0]=some y0:=by have:=hf 0 _ rfl;simpa [cS] using this
   have f1:DataW.trod enc Tryz.prog W 0 (fun _=>true) true m 22 [e1]=some y1:=by have:=hf 1 _ rfl;simpa [cLT] using this
   have f2:DataW.trod enc Tryz.prog W 0 (fun _=>true) true m 3 [e2]=some y2:=by have:=hf 2 _ rfl;simpa [cI] using this
   have f3:DataW.trod enc Tryz.prog W 0 (fun _=>true) true m 59 [e3]=some y3:=by have:=hf 3 _ rfl;simpa [cLG] using this
   have f4:DataW.trod enc Tryz.prog W 0 (fun _=>true) true m 60 [e4]=some y4:=by have:=hf 4 _ rfl;simpa [cLX] using this
   have f5:DataW.trod enc Tryz.prog W 0 (fun _=>true) true m 49 [e5]=some y5:=by have:=hf 5 _ rfl;simpa [cLN8] using this
   have f6:DataW.trod enc Tryz.prog W 0 (fun _=>true) true m 3 [e6]=some y6:=by have:=hf 6 _ rfl;simpa [cI] using this
   obtain ⟨w0,w1,w2,w3,w4,w5,w6,_⟩:=hw;obtain ⟨n0,z0,_,v0⟩:=DataW.trod_string Tryz.underlying9 f0;simp at z0;subst z0;obtain ⟨n1,v1⟩:=open_strs f1 w1;obtain ⟨n2,z2,_,v2⟩:=DataW.trod_int Tryz.underlying3 f2;simp at z2;subst z2;obtain ⟨n3,v3⟩:=open_list (α:=Gi) Tryz.underlying59 cGi_ (by omega) (by rw [bGi_];omega) Gi.ds (fun n _=>open_gi n) f3 w3;obtain ⟨n4,v4⟩:=open_list (α:=Gf) Tryz.underlying60 cGf_ (by omega) (by rw [bGf_];omega) Gf.ds (fun n _=>open_gf n) f4 w4;obtain ⟨n5,v5⟩:=open_nums f5 w5;obtain ⟨n6,z6,_,v6⟩:=DataW.trod_int Tryz.underlying3 f6;simp at z6;subst z6;refine ⟨(⟨n0,n1,n2,n3,n4,n5,n6⟩:Ob),.cons (dstr v0) (.cons v1 (.cons (dint v2) (.cons v3 (.cons v4 (.cons v5 (.cons (dint v6) .nil)))))),fun x k y hxy=>?_⟩;simp at hxy;subst hxy
   rcases DataW.trod_slice Tryz.underlying22 f1 with ⟨hcs,_⟩ | ⟨a,len,cap,elems,rest,n,_,hcs,_,_,hl,_⟩
   . simp at hcs;omega
   . simp at hcs;omega
theorem open_object {v:Value} {d:DataW H} {p:List MemPlace} {r:Reach} {base:Nat} (hv:Value.okWide Tryz.prog W r base 62 v)
 (h:DataW.Trod enc Tryz.prog W 0 (fun _=>true) true 62 v d p) (hw:Okw 62 d) :
 ∃ (o:Ob) (x1:Option Addr) (y1:Nat) (x3:Option Addr) (y3:Nat) (x4:Option Addr) (y4:Nat) (x5:Option Addr) (y5:Nat),v = .agg #[.string o.name,.slice x1 o.uses.length y1,.int .i64 o.data,.slice x3 o.code.length y3,.slice x4 o.fixes.length y4,.slice x5 o.entries.length y5,.int .i64 o.main]/\OvAt W o x1 x3 x4 x5/\o.uses.length<=y1:=by
 obtain ⟨cs,rfl,hsz⟩:=okWide_struct Tryz.underlying62 hv;obtain ⟨fuel,hf⟩:=h;obtain ⟨o,hm,hcap⟩:=open_ob fuel _ _ hf hw;rw [cOb_] at hsz;obtain ⟨cs⟩:=cs
 match cs,hsz with
 | [e0,e1,e2,e3,e4,e5,e6],_=>
   have hm':DVals W Tu o.ds [e0,e1,e2,e3,e4,e5,e6]:=hm
   have g:=fun j x h=>hm'.get j x h
   obtain ⟨v0,k0,d0⟩:=g 0 _ rfl;obtain ⟨v1,k1,d1⟩:=g 1 _ rfl;obtain ⟨v2,k2,d2⟩:=g 2 _ rfl;obtain ⟨v3,k3,d3⟩:=g 3 _ rfl;obtain ⟨v4,k4,d4⟩:=g 4 _ rfl;obtain ⟨v5,k5,d5⟩:=g 5 _ rfl;obtain ⟨v6,k6,d6⟩:=g 6 _ rfl;simp at k0 k1 k2 k3 k4 k5 k6;subst k0 k1 k2 k3 k4 k5 k6;obtain ⟨rfl,hn⟩:=dstr_of d0;obtain ⟨x1,y1,rfl,h1⟩:=dlist_of d1;obtain ⟨rfl,w2⟩:=dnum_of d2;obtain ⟨x3,y3,rfl,h3⟩:=dlist_of d3;obtain ⟨x4,y4,rfl,h4⟩:=dlist_of d4;obtain ⟨x5,y5,rfl,h5⟩:=dlist_of d5;obtain ⟨rfl,w6⟩:=dnum_of d6;exact ⟨o,x1,y1,x3,y3,x4,y4,x5,y5,rfl,⟨hn,h1,w2,h3,h4,h5,w6⟩,hcap _ _ _ rfl⟩
end
end Go.Proofs.YtndkhgakfodldaaGreatDoor
