/-
  What comes in, opened: lists of modules with all that lies in them.
-/
import Derived.Test.YtndkhgakfodldaaGreatDoorTd
import Derived.Test.YtndkhgakfodldaaGreatDoorRows
import Derived.WalkKit
import Derived.ProofKit
import Derived.OpenShut
import Derived.SizedLaws
import Derived.Deep.Strs
namespace Go.Proofs.YtndkhgakfodldaaGreatDoor
set_option maxRecDepth 100000
open Go.ChangeShapes Go.WideShapes Go.ChangeAt Go.RowKit Go.Deep
abbrev Tu:Nat->Prop:=fun _=>True
def Okw {H:Type} (t:TypeId) (d:DataW H):Prop:=(DataW.weights Tryz.prog t d).all (·<=reachBytes)=true
theorem all_in {H:Type} {e:TypeId} {d:DataW H}:∀ {l:List (DataW H)},d ∈ l->(DataW.weightsAll Tryz.prog e l).all (·<=reachBytes)=true->Okw e d
 | x :: r,hm,h=>by
   simp only [DataW.weightsAll,List.all_append,Bool.and_eq_true] at h
   rcases List.mem_cons.1 hm with rfl | hm
   . exact h.1
   . exact all_in hm h.2
theorem open_list {H:Type} {enc:TypeId × Value->H} {W:World} {α:Type} {t e:TypeId} {k:Nat} (ht:Tryz.prog.underlying t=some (.slice e)) (hc:Tryz.prog.cellsOf e=k) (hk:0<k) (hby:8*k<=Tryz.prog.bytesOf e)
 (f:α->List D) {fuel:Nat} (hel:∀ n,n<fuel->∀ cs y,DataW.trod enc Tryz.prog W 0 (fun _=>true) true n e cs=some y->Okw e y.1->∃ z:α,DVals W Tu (f z) cs)
 {c:Value} {x:DataW H × List MemPlace} (h:DataW.trod enc Tryz.prog W 0 (fun _=>true) true fuel t [c]=some x) (hw:Okw t x.1):∃ l:List α,DVal W Tu (.list l.length (l.flatMap f)) c:=by
 rcases DataW.trod_slice ht h with ⟨hcs,hx⟩ | ⟨a,len,cap,elems,rest,n,rfl,hcs,hx,_,hl,hm,hlen,hel1,_,_⟩
 . simp at hcs
   subst hcs;exact ⟨[],dnil⟩
 . simp at hcs
   subst hcs;subst hx;simp only [Okw,DataW.weights,ht,List.all_cons,List.all_append,Bool.and_eq_true,decide_eq_true_eq] at hw;obtain ⟨hw1,hw2,_⟩:=hw;rw [List.length_map,List.length_map] at hw1
   have hlb:len*k<=17592186044416:=by
    have h1:(elems.length+rest.length)*(8*k)<=reachBytes:=Nat.le_trans (Nat.mul_le_mul_left _ hby) hw1;have h2:elems.length*(8*k)<=(elems.length+rest.length)*(8*k):=Nat.mul_le_mul_right _ (by omega)
    have h3:elems.length*(8*k)=8*(len*k):=by rw [hlen];rw [Nat.mul_left_comm]
    unfold reachBytes at h1;omega
   have key:∀ m,m<=len->∃ (l:List α) (cs:List Value),l.length=m/\cs.length=m*k/\(∀ j u,cs[j]? = some u->W.cell? (a.add j)=some u)/\DVals W Tu (l.flatMap f) cs:=by
    intro m
    induction m with
    | zero=>intro _;exact ⟨[],[],rfl,by simp,(fun j u hj=>by simp at hj),.nil⟩
    | succ m ih=>
      intro hm';obtain ⟨l,cs,h1,h2,h3,h4⟩:=ih (by omega);have he:=hel1 m (by omega);rw [hc] at he
      have hme:m<elems.length:=by omega
      rw [List.getElem?_eq_getElem hme] at he;obtain ⟨cs',hc1,hc2⟩:=Option.bind_eq_some_iff.1 he;obtain ⟨_,hcl,hcell⟩:=World.cells?_some hc1;obtain ⟨z,hz⟩:=hel n (by omega) cs' elems[m] hc2 (all_in (List.mem_map.2 ⟨_,List.getElem_mem hme,rfl⟩) hw2);refine ⟨l++[z],cs++cs',by simp [h1],by simp [h2,hcl,Nat.succ_mul],fun j u hj=>?_,?_⟩
      . rcases Nat.lt_or_ge j cs.length with hlt | hge
        . rw [List.getElem?_append_left hlt] at hj;exact h3 j u hj
        . rw [List.getElem?_append_right hge] at hj
          have hr:j - cs.length<k:=by
           rcases Nat.lt_or_ge (j - cs.length) k with h | h
           . exact h
           . rw [List.getElem?_eq_none (by omega)] at hj;cases hj
          have:=hcell (j - cs.length) hr;rw [add_add,hj,show m*k+(j - cs.length)=j from by omega] at this;exact this
      . rw [List.flatMap_append]
        simp only [List.flatMap_cons,List.flatMap_nil,List.append_nil];exact h4.append hz
   obtain ⟨l,cs,h1,h2,h3,h4⟩:=key len (Nat.le_refl _)
   rcases Nat.eq_zero_or_pos len with h0 | h0
   . subst h0
     exact ⟨[],dnil⟩
   . have hlen2:=h4.len
     obtain ⟨b,off,spot⟩:=a
     have hpos:0<cs.length:=by rw [h2];exact Nat.mul_pos h0 hk
     have hc0:=h3 0 cs[0] (List.getElem?_eq_getElem hpos)
     have hspot:spot=none:=by simpa [Addr.add] using World.cell?_spot hc0
     subst hspot;refine ⟨l,?_⟩;rw [h1];have hle:len<=len*k:=Nat.le_mul_of_pos_right _ hk;refine dlist (by omega) (by omega) trivial ?_ (fun j u hj=>?_) h4
     . have:=World.block_lt_of_cell? W _ hc0
       simpa [Addr.add] using this
     . have:=h3 j u hj
       rw [add_plain] at this;exact this
theorem exsD_flat:∀ l:List Ex,l.flatMap Ex.ds=exsD l
 | []=>by simp [exsD]
 | x :: r=>by simp [exsD,exsD_flat r]
theorem stsD_flat:∀ l:List St,l.flatMap St.ds=stsD l
 | []=>by simp [stsD]
 | x :: r=>by simp [stsD,stsD_flat r]
theorem strs_flat (l:List ByteArray):l.flatMap (fun s=>[D.str s])=strsD l:=by
 induction l with
 | nil=>rfl
 | cons x r ih=>simp only [List.flatMap_cons,ih,strsD,List.map_cons];rfl
theorem cI:Tryz.prog.cellsOf 3=1:=by kernel_rfl
theorem cS:Tryz.prog.cellsOf 9=1:=by kernel_rfl
theorem cB:Tryz.prog.cellsOf 4=1:=by kernel_rfl
theorem cLE:Tryz.prog.cellsOf 172=1:=by kernel_rfl
theorem cLS:Tryz.prog.cellsOf 25=1:=by kernel_rfl
theorem cLD:Tryz.prog.cellsOf 23=1:=by kernel_rfl
theorem cLP:Tryz.prog.cellsOf 24=1:=by kernel_rfl
theorem cLT:Tryz.prog.cellsOf 22=1:=by kernel_rfl
theorem cE:Tryz.prog.cellsOf 174=5:=by kernel_rfl
theorem cSt:Tryz.prog.cellsOf 176=6:=by kernel_rfl
theorem cD:Tryz.prog.cellsOf 170=4:=by kernel_rfl
theorem cP:Tryz.prog.cellsOf 118=5:=by kernel_rfl
theorem cM:Tryz.prog.cellsOf 27=5:=by kernel_rfl
theorem bS:Tryz.prog.bytesOf 9=16:=by kernel_rfl
theorem bE:Tryz.prog.bytesOf 174=72:=by kernel_rfl
theorem bSt:Tryz.prog.bytesOf 176=112:=by kernel_rfl
theorem bD:Tryz.prog.bytesOf 170=40:=by kernel_rfl
theorem bP:Tryz.prog.bytesOf 118=96:=by kernel_rfl
section
variable {H:Type} {enc:TypeId × Value->H} {W:World}
theorem open_strs {fuel:Nat} {c:Value} {x:DataW H × List MemPlace} (h:DataW.trod enc Tryz.prog W 0 (fun _=>true) true fuel 22 [c]=some x) (hw:Okw 22 x.1):∃ l:List ByteArray,DVal W Tu (.list l.length (strsD l)) c:=by
 obtain ⟨l,hl⟩:=open_list (α:=ByteArray) Tryz.underlying22 cS (by omega) (by rw [bS];omega) (fun s=>[D.str s]) (fun n _ cs y hy _=>by
  obtain ⟨s,rfl,_,hs⟩:=DataW.trod_string Tryz.underlying9 hy
  exact ⟨s,.cons (dstr hs) .nil⟩) h hw
 rw [strs_flat] at hl;exact ⟨l,hl⟩
theorem open_exl {fuel:Nat} (hel:∀ n,n<fuel->∀ cs y,DataW.trod enc Tryz.prog W 0 (fun _=>true) true n 174 cs=some y->Okw 174 y.1->∃ z:Ex,DVals W Tu z.ds cs) {c:Value} {x:DataW H × List MemPlace} (h:DataW.trod enc Tryz.prog W 0 (fun _=>true) true fuel 172 [c]=some x) (hw:Okw 172 x.1):∃ l:List Ex,DVal W Tu (.list l.length (exsD l)) c:=by
 obtain ⟨l,hl⟩:=open_list (α:=Ex) Tryz.underlying172 cE (by omega) (by rw [bE];omega) Ex.ds hel h hw;rw [exsD_flat] at hl;exact ⟨l,hl⟩
theorem open_ex (fuel:Nat):∀ cs y,DataW.trod enc Tryz.prog W 0 (fun _=>true) true fuel 174 cs=some y->Okw 174 y.1->∃ z:Ex,DVals W Tu z.ds cs:=by
 induction fuel using Nat.strongRecOn with
 | ind fuel ih=>
 intro cs y h hw;obtain ⟨xs,m,hm,hx,hl,hlen,hf⟩:=DataW.trod_struct Tryz.underlying174 h;subst hx;rw [cE] at hl
 match xs,hlen,cs,hl with
 | [y0,y1,y2,y3,y4],_,[e0,e1,e2,e3,e4],_=>
   simp only [Okw,DataW.weights,Tryz.underlying174,List.map_cons,List.map_nil,DataW.weightsEach,List.all_append,Bool.and_eq_true,List.all_nil] at hw
   have f0:DataW.trod enc Tryz.prog W 0 (fun _=>true) true m 3 [e0]=some y0:=by have:=hf 0 _ rfl;simpa [cI] using this
   have f1:DataW.trod enc Tryz.prog W 0 (fun _=>true) true m 3 [e1]=some y1:=by have:=hf 1 _ rfl;simpa [cI] using this
   have f2:DataW.trod enc Tryz.prog W 0 (fun _=>true) true m 9 [e2]=some y2:=by have:=hf 2 _ rfl;simpa [cS] using this
   have f3:DataW.trod enc Tryz.prog W 0 (fun _=>true) true m 9 [e3]=some y3:=by have:=hf 3 _ rfl;simpa [cS] using this
   have f4:DataW.trod enc Tryz.prog W 0 (fun _=>true) true m 172 [e4]=some y4:=by have:=hf 4 _ rfl;simpa [cLE] using this
   obtain ⟨w0,w1,w2,w3,w4,_⟩:=hw;obtain ⟨n0,z0,_,v0⟩:=DataW.trod_int Tryz.underlying3 f0;simp at z0;subst z0;obtain ⟨n1,z1,_,v1⟩:=DataW.trod_int Tryz.underlying3 f1;simp at z1;subst z1;obtain ⟨n2,z2,_,v2⟩:=DataW.trod_string Tryz.underlying9 f2;simp at z2;subst z2;obtain ⟨n3,z3,_,v3⟩:=DataW.trod_string Tryz.underlying9 f3;simp at z3;subst z3;obtain ⟨n4,v4⟩:=open_exl (fun n hn=>ih n (by omega)) f4 w4;exact ⟨.mk n0 n1 n2 n3 n4,.cons (dint v0) (.cons (dint v1) (.cons (dstr v2) (.cons (dstr v3) (.cons (v4) .nil))))⟩
theorem open_exs {fuel:Nat} {c:Value} {x:DataW H × List MemPlace} (h:DataW.trod enc Tryz.prog W 0 (fun _=>true) true fuel 172 [c]=some x) (hw:Okw 172 x.1):∃ l:List Ex,DVal W Tu (.list l.length (exsD l)) c:=open_exl (fun n _=>open_ex n) h hw
theorem open_stl {fuel:Nat} (hel:∀ n,n<fuel->∀ cs y,DataW.trod enc Tryz.prog W 0 (fun _=>true) true n 176 cs=some y->Okw 176 y.1->∃ z:St,DVals W Tu z.ds cs) {c:Value} {x:DataW H × List MemPlace} (h:DataW.trod enc Tryz.prog W 0 (fun _=>true) true fuel 25 [c]=some x) (hw:Okw 25 x.1):∃ l:List St,DVal W Tu (.list l.length (stsD l)) c:=by
 obtain ⟨l,hl⟩:=open_list (α:=St) Tryz.underlying25 cSt (by omega) (by rw [bSt];omega) St.ds hel h hw;rw [stsD_flat] at hl;exact ⟨l,hl⟩
theorem open_st (fuel:Nat):∀ cs y,DataW.trod enc Tryz.prog W 0 (fun _=>true) true fuel 176 cs=some y->Okw 176 y.1->∃ z:St,DVals W Tu z.ds cs:=by
 induction fuel using Nat.strongRecOn with
 | ind fuel ih=>
 intro cs y h hw;obtain ⟨xs,m,hm,hx,hl,hlen,hf⟩:=DataW.trod_struct Tryz.underlying176 h;subst hx;rw [cSt] at hl
 match xs,hlen,cs,hl with
 | [y0,y1,y2,y3,y4,y5],_,[e0,e1,e2,e3,e4,e5],_=>
   simp only [Okw,DataW.weights,Tryz.underlying176,List.map_cons,List.map_nil,DataW.weightsEach,List.all_append,Bool.and_eq_true,List.all_nil] at hw
   have f0:DataW.trod enc Tryz.prog W 0 (fun _=>true) true m 3 [e0]=some y0:=by have:=hf 0 _ rfl;simpa [cI] using this
   have f1:DataW.trod enc Tryz.prog W 0 (fun _=>true) true m 9 [e1]=some y1:=by have:=hf 1 _ rfl;simpa [cS] using this
   have f2:DataW.trod enc Tryz.prog W 0 (fun _=>true) true m 9 [e2]=some y2:=by have:=hf 2 _ rfl;simpa [cS] using this
   have f3:DataW.trod enc Tryz.prog W 0 (fun _=>true) true m 172 [e3]=some y3:=by have:=hf 3 _ rfl;simpa [cLE] using this
   have f4:DataW.trod enc Tryz.prog W 0 (fun _=>true) true m 25 [e4]=some y4:=by have:=hf 4 _ rfl;simpa [cLS] using this
   have f5:DataW.trod enc Tryz.prog W 0 (fun _=>true) true m 25 [e5]=some y5:=by have:=hf 5 _ rfl;simpa [cLS] using this
   obtain ⟨w0,w1,w2,w3,w4,w5,_⟩:=hw;obtain ⟨n0,z0,_,v0⟩:=DataW.trod_int Tryz.underlying3 f0;simp at z0;subst z0;obtain ⟨n1,z1,_,v1⟩:=DataW.trod_string Tryz.underlying9 f1;simp at z1;subst z1;obtain ⟨n2,z2,_,v2⟩:=DataW.trod_string Tryz.underlying9 f2;simp at z2;subst z2;obtain ⟨n3,v3⟩:=open_exs f3 w3;obtain ⟨n4,v4⟩:=open_stl (fun n hn=>ih n (by omega)) f4 w4;obtain ⟨n5,v5⟩:=open_stl (fun n hn=>ih n (by omega)) f5 w5;exact ⟨.mk n0 n1 n2 n3 n4 n5,.cons (dint v0) (.cons (dstr v1) (.cons (dstr v2) (.cons (v3) (.cons (v4) (.cons (v5) .nil)))))⟩
theorem open_sts {fuel:Nat} {c:Value} {x:DataW H × List MemPlace} (h:DataW.trod enc Tryz.prog W 0 (fun _=>true) true fuel 25 [c]=some x) (hw:Okw 25 x.1):∃ l:List St,DVal W Tu (.list l.length (stsD l)) c:=open_stl (fun n _=>open_st n) h hw
theorem open_de (fuel:Nat):∀ cs y,DataW.trod enc Tryz.prog W 0 (fun _=>true) true fuel 170 cs=some y->Okw 170 y.1->∃ z:De,DVals W Tu z.ds cs:=by
 intro cs y h hw;obtain ⟨xs,m,hm,hx,hl,hlen,hf⟩:=DataW.trod_struct Tryz.underlying170 h;subst hx;rw [cD] at hl
 match xs,hlen,cs,hl with
 | [y0,y1,y2,y3],_,[e0,e1,e2,e3],_=>
   simp only [Okw,DataW.weights,Tryz.underlying170,List.map_cons,List.map_nil,DataW.weightsEach,List.all_append,Bool.and_eq_true,List.all_nil] at hw
   have f0:DataW.trod enc Tryz.prog W 0 (fun _=>true) true m 3 [e0]=some y0:=by have:=hf 0 _ rfl;simpa [cI] using this
   have f1:DataW.trod enc Tryz.prog W 0 (fun _=>true) true m 9 [e1]=some y1:=by have:=hf 1 _ rfl;simpa [cS] using this
   have f2:DataW.trod enc Tryz.prog W 0 (fun _=>true) true m 4 [e2]=some y2:=by have:=hf 2 _ rfl;simpa [cB] using this
   have f3:DataW.trod enc Tryz.prog W 0 (fun _=>true) true m 3 [e3]=some y3:=by have:=hf 3 _ rfl;simpa [cI] using this
   obtain ⟨w0,w1,w2,w3,_⟩:=hw;obtain ⟨n0,z0,_,v0⟩:=DataW.trod_int Tryz.underlying3 f0;simp at z0;subst z0;obtain ⟨n1,z1,_,v1⟩:=DataW.trod_string Tryz.underlying9 f1;simp at z1;subst z1;obtain ⟨n2,z2,_⟩:=DataW.trod_bool Tryz.underlying4 f2;simp at z2;subst z2;obtain ⟨n3,z3,_,v3⟩:=DataW.trod_int Tryz.underlying3 f3;simp at z3;subst z3;exact ⟨⟨n0,n1,n2,n3⟩,.cons (dint v0) (.cons (dstr v1) (.cons (dbool) (.cons (dint v3) .nil)))⟩
end
end Go.Proofs.YtndkhgakfodldaaGreatDoor
