import Derived.Test.YtndkhgakfodldaaGreatDoorTd
import Derived.Test.YtndkhgakfodldaaGreatDoorRows
import Derived.ProofKit
import Derived.OpenShut
import Derived.Deep.Strs
namespace Go.Proofs.YtndkhgakfodldaaGreatDoor
set_option maxRecDepth 100000
open Go.ChangeShapes Go.WideShapes Go.ChangeAt Go.RowKit Go.Deep
abbrev Tu:Nat->Prop:=fun _=>True
def Okw {H:Type} (t:TypeId) (d:DataW H):Prop:=(DataW.weights Tryz.prog t d).all (·<=reachBytes)=true
theorem zu6 {H:Type} {e:TypeId} {d:DataW H}:∀ {l:List (DataW H)},d ∈ l->(DataW.weightsAll Tryz.prog e l).all (·<=reachBytes)=true->Okw e d
 | x :: r,hm,h=>by
   simp only [DataW.weightsAll,vaw,van] at h
   rcases vbo.1 hm with rfl | hm
   . exact h.1
   . exact zu6 hm h.2
theorem zeo {H:Type} {enc:TypeId × Value->H} {W:World} {α:Type} {t e:TypeId} {k:Nat} (ht:Tryz.prog.underlying t=some (.slice e)) (hc:Tryz.prog.cellsOf e=k) (hk:0<k) (hby:8*k<=Tryz.prog.bytesOf e)
 (f:α->List D) {fuel:Nat} (hel:∀ n,n<fuel->∀ cs y,DataW.trod enc Tryz.prog W 0 (fun _=>true) true n e cs=some y->Okw e y.1->∃ z:α,zbe W Tu (f z) cs)
 {c:Value} {x:DataW H × List MemPlace} (h:DataW.trod enc Tryz.prog W 0 (fun _=>true) true fuel t [c]=some x) (hw:Okw t x.1):∃ l:List α,zde W Tu (.list l.length (l.flatMap f)) c:=by
 rcases DataW.trod_slice ht h with ⟨hcs,hx⟩ | ⟨a,len,cap,elems,rest,n,rfl,hcs,hx,_,hl,hm,hlen,hel1,_,_⟩
 . simp at hcs
   subst hcs;exact ⟨[],zly⟩
 . simp at hcs
   subst hcs;subst hx;simp only [Okw,DataW.weights,ht,vbs,vaw,van,decide_eq_true_eq] at hw;obtain ⟨hw1,hw2,_⟩:=hw;rw [vbm,vbm] at hw1
   have hlb:len*k<=17592186044416:=by
    have h1:(elems.length+rest.length)*(8*k)<=reachBytes:=vbe (Nat.mul_le_mul_left _ hby) hw1;have h2:elems.length*(8*k)<=(elems.length+rest.length)*(8*k):=Nat.mul_le_mul_right _ (by omega)
    have h3:elems.length*(8*k)=8*(len*k):=by rw [hlen];rw [Nat.mul_left_comm]
    unfold reachBytes at h1;omega
   have key:∀ m,m<=len->∃ (l:List α) (cs:List Value),l.length=m/\cs.length=m*k/\(∀ j u,cs[j]? = some u->W.cell? (a.add j)=some u)/\zbe W Tu (l.flatMap f) cs:=by
    intro m
    induction m with
    | zero=>intro _;exact ⟨[],[],rfl,by simp,(fun j u hj=>by simp at hj),.nil⟩
    | succ m ih=>
      intro hm';obtain ⟨l,cs,h1,h2,h3,h4⟩:=ih (by omega);have he:=hel1 m (by omega);rw [hc] at he
      have hme:m<elems.length:=by omega
      rw [vba hme] at he;obtain ⟨cs',hc1,hc2⟩:=Option.bind_eq_some_iff.1 he;obtain ⟨_,hcl,hcell⟩:=World.cells?_some hc1;obtain ⟨z,hz⟩:=hel n (by omega) cs' elems[m] hc2 (zu6 (vcg.2 ⟨_,vah hme,rfl⟩) hw2);refine ⟨l++[z],cs++cs',by simp [h1],by simp [h2,hcl,vea],fun j u hj=>?_,?_⟩
      . rcases vbk j cs.length with hlt | hge
        . rw [vbf hlt] at hj;exact h3 j u hj
        . rw [vbb hge] at hj
          have hr:j - cs.length<k:=by
           rcases vbk (j - cs.length) k with h | h
           . exact h
           . rw [vct (by omega)] at hj;cases hj
          have:=hcell (j - cs.length) hr;rw [add_add,hj,show m*k+(j - cs.length)=j from by omega] at this;exact this
      . rw [vdj]
        simp only [vcw,List.flatMap_nil,vbw];exact h4.append hz
   obtain ⟨l,cs,h1,h2,h3,h4⟩:=key len (vaa _)
   rcases vdm len with h0 | h0
   . subst h0
     exact ⟨[],zly⟩
   . have hlen2:=h4.len
     obtain ⟨b,off,spot⟩:=a
     have hpos:0<cs.length:=by rw [h2];exact Nat.mul_pos h0 hk
     have hc0:=h3 0 cs[0] (vba hpos)
     have hspot:spot=none:=by simpa [Addr.add] using World.cell?_spot hc0
     subst hspot;refine ⟨l,?_⟩;rw [h1];have hle:len<=len*k:=Nat.le_mul_of_pos_right _ hk;refine z1n (by omega) (by omega) trivial ?_ (fun j u hj=>?_) h4
     . have:=World.block_lt_of_cell? W _ hc0
       simpa [Addr.add] using this
     . have:=h3 j u hj
       rw [add_plain] at this;exact this
theorem zn2:∀ l:List Ex,l.flatMap Ex.ds=za9 l
 | []=>by simp [za9]
 | x :: r=>by simp [za9,zn2 r]
theorem zn3:∀ l:List St,l.flatMap St.ds=za2 l
 | []=>by simp [za2]
 | x :: r=>by simp [za2,zn3 r]
theorem zn4 (l:List ByteArray):l.flatMap (fun s=>[D.str s])=zan l:=by
 induction l with
 | nil=>rfl
 | cons x r ih=>simp only [vcw,ih,zan,vbq];rfl
theorem cI:Tryz.prog.cellsOf 3=1:=by kernel_rfl
theorem cS:Tryz.prog.cellsOf 9=1:=by kernel_rfl
theorem cB:Tryz.prog.cellsOf 4=1:=by kernel_rfl
theorem cLE:Tryz.prog.cellsOf 172=1:=by kernel_rfl
theorem cLS:Tryz.prog.cellsOf 25=1:=by kernel_rfl
theorem cLD:Tryz.prog.cellsOf 23=1:=by kernel_rfl
theorem cLP:Tryz.prog.cellsOf 24=1:=by kernel_rfl
theorem cLT:Tryz.prog.cellsOf 22=1:=by kernel_rfl
theorem cE:Tryz.prog.cellsOf 174=5:=by kernel_rfl
theorem cSt:Tryz.prog.cellsOf 176=6:=by kernel_rfl
theorem cD:Tryz.prog.cellsOf 170=4:=by kernel_rfl
theorem cP:Tryz.prog.cellsOf 118=5:=by kernel_rfl
theorem cM:Tryz.prog.cellsOf 27=5:=by kernel_rfl
theorem bS:Tryz.prog.bytesOf 9=16:=by kernel_rfl
theorem bE:Tryz.prog.bytesOf 174=72:=by kernel_rfl
theorem bSt:Tryz.prog.bytesOf 176=112:=by kernel_rfl
theorem bD:Tryz.prog.bytesOf 170=40:=by kernel_rfl
theorem bP:Tryz.prog.bytesOf 118=96:=by kernel_rfl
section
variable {H:Type} {enc:TypeId × Value->H} {W:World}
theorem zu7 {fuel:Nat} {c:Value} {x:DataW H × List MemPlace} (h:DataW.trod enc Tryz.prog W 0 (fun _=>true) true fuel 22 [c]=some x) (hw:Okw 22 x.1):∃ l:List ByteArray,zde W Tu (.list l.length (zan l)) c:=by
 obtain ⟨l,hl⟩:=zeo (α:=ByteArray) Tryz.underlying22 cS (by omega) (by rw [bS];omega) (fun s=>[D.str s]) (fun n _ cs y hy _=>by
  obtain ⟨s,rfl,_,hs⟩:=vbh Tryz.underlying9 hy
  exact ⟨s,.cons (zd1 hs) .nil⟩) h hw
 rw [zn4] at hl;exact ⟨l,hl⟩
theorem zqz {fuel:Nat} (hel:∀ n,n<fuel->∀ cs y,DataW.trod enc Tryz.prog W 0 (fun _=>true) true n 174 cs=some y->Okw 174 y.1->∃ z:Ex,zbe W Tu z.ds cs) {c:Value} {x:DataW H × List MemPlace} (h:DataW.trod enc Tryz.prog W 0 (fun _=>true) true fuel 172 [c]=some x) (hw:Okw 172 x.1):∃ l:List Ex,zde W Tu (.list l.length (za9 l)) c:=by
 obtain ⟨l,hl⟩:=zeo (α:=Ex) Tryz.underlying172 cE (by omega) (by rw [bE];omega) Ex.ds hel h hw;rw [zn2] at hl;exact ⟨l,hl⟩
theorem zzw (fuel:Nat):∀ cs y,DataW.trod enc Tryz.prog W 0 (fun _=>true) true fuel 174 cs=some y->Okw 174 y.1->∃ z:Ex,zbe W Tu z.ds cs:=by
 induction fuel using Nat.strongRecOn with
 | ind fuel ih=>
 intro cs y h hw;obtain ⟨xs,m,hm,hx,hl,hlen,hf⟩:=vbz Tryz.underlying174 h;subst hx;rw [cE] at hl
 match xs,hlen,cs,hl with
 | [y0,y1,y2,y3,y4],_,[e0,e1,e2,e3,e4],_=>
   simp only [Okw,DataW.weights,Tryz.underlying174,vbq,vcu,DataW.weightsEach,vaw,van,vcn] at hw
   have f0:DataW.trod enc Tryz.prog W 0 (fun _=>true) true m 3 [e0]=some y0:=by have:=hf 0 _ rfl;simpa [cI] using this
   have f1:DataW.trod enc Tryz.prog W 0 (fun _=>true) true m 3 [e1]=some y1:=by have:=hf 1 _ rfl;simpa [cI] using this
   have f2:DataW.trod enc Tryz.prog W 0 (fun _=>true) true m 9 [e2]=some y2:=by have:=hf 2 _ rfl;simpa [cS] using this
   have f3:DataW.trod enc Tryz.prog W 0 (fun _=>true) true m 9 [e3]=some y3:=by have:=hf 3 _ rfl;simpa [cS] using this
   have f4:DataW.trod enc Tryz.prog W 0 (fun _=>true) true m 172 [e4]=some y4:=by have:=hf 4 _ rfl;simpa [cLE] using this
   obtain ⟨w0,w1,w2,w3,w4,_⟩:=hw;obtain ⟨n0,z0,_,v0⟩:=vcj Tryz.underlying3 f0;simp at z0;subst z0;obtain ⟨n1,z1,_,v1⟩:=vcj Tryz.underlying3 f1;simp at z1;subst z1;obtain ⟨n2,z2,_,v2⟩:=vbh Tryz.underlying9 f2;simp at z2;subst z2;obtain ⟨n3,z3,_,v3⟩:=vbh Tryz.underlying9 f3;simp at z3;subst z3;obtain ⟨n4,v4⟩:=zqz (fun n hn=>ih n (by omega)) f4 w4;exact ⟨.mk n0 n1 n2 n3 n4,.cons (zd7 v0) (.cons (zd7 v1) (.cons (zd1 v2) (.cons (zd1 v3) (.cons (v4) .nil))))⟩
theorem zxi {fuel:Nat} {c:Value} {x:DataW H × List MemPlace} (h:DataW.trod enc Tryz.prog W 0 (fun _=>true) true fuel 172 [c]=some x) (hw:Okw 172 x.1):∃ l:List Ex,zde W Tu (.list l.length (za9 l)) c:=zqz (fun n _=>zzw n) h hw
theorem zmo {fuel:Nat} (hel:∀ n,n<fuel->∀ cs y,DataW.trod enc Tryz.prog W 0 (fun _=>true) true n 176 cs=some y->Okw 176 y.1->∃ z:St,zbe W Tu z.ds cs) {c:Value} {x:DataW H × List MemPlace} (h:DataW.trod enc Tryz.prog W 0 (fun _=>true) true fuel 25 [c]=some x) (hw:Okw 25 x.1):∃ l:List St,zde W Tu (.list l.length (za2 l)) c:=by
 obtain ⟨l,hl⟩:=zeo (α:=St) Tryz.underlying25 cSt (by omega) (by rw [bSt];omega) St.ds hel h hw;rw [zn3] at hl;exact ⟨l,hl⟩
theorem zzx (fuel:Nat):∀ cs y,DataW.trod enc Tryz.prog W 0 (fun _=>true) true fuel 176 cs=some y->Okw 176 y.1->∃ z:St,zbe W Tu z.ds cs:=by
 induction fuel using Nat.strongRecOn with
 | ind fuel ih=>
 intro cs y h hw;obtain ⟨xs,m,hm,hx,hl,hlen,hf⟩:=vbz Tryz.underlying176 h;subst hx;rw [cSt] at hl
 match xs,hlen,cs,hl with
 | [y0,y1,y2,y3,y4,y5],_,[e0,e1,e2,e3,e4,e5],_=>
   simp only [Okw,DataW.weights,Tryz.underlying176,vbq,vcu,DataW.weightsEach,vaw,van,vcn] at hw
   have f0:DataW.trod enc Tryz.prog W 0 (fun _=>true) true m 3 [e0]=some y0:=by have:=hf 0 _ rfl;simpa [cI] using this
   have f1:DataW.trod enc Tryz.prog W 0 (fun _=>true) true m 9 [e1]=some y1:=by have:=hf 1 _ rfl;simpa [cS] using this
   have f2:DataW.trod enc Tryz.prog W 0 (fun _=>true) true m 9 [e2]=some y2:=by have:=hf 2 _ rfl;simpa [cS] using this
   have f3:DataW.trod enc Tryz.prog W 0 (fun _=>true) true m 172 [e3]=some y3:=by have:=hf 3 _ rfl;simpa [cLE] using this
   have f4:DataW.trod enc Tryz.prog W 0 (fun _=>true) true m 25 [e4]=some y4:=by have:=hf 4 _ rfl;simpa [cLS] using this
   have f5:DataW.trod enc Tryz.prog W 0 (fun _=>true) true m 25 [e5]=some y5:=by have:=hf 5 _ rfl;simpa [cLS] using this
   obtain ⟨w0,w1,w2,w3,w4,w5,_⟩:=hw;obtain ⟨n0,z0,_,v0⟩:=vcj Tryz.underlying3 f0;simp at z0;subst z0;obtain ⟨n1,z1,_,v1⟩:=vbh Tryz.underlying9 f1;simp at z1;subst z1;obtain ⟨n2,z2,_,v2⟩:=vbh Tryz.underlying9 f2;simp at z2;subst z2;obtain ⟨n3,v3⟩:=zxi f3 w3;obtain ⟨n4,v4⟩:=zmo (fun n hn=>ih n (by omega)) f4 w4;obtain ⟨n5,v5⟩:=zmo (fun n hn=>ih n (by omega)) f5 w5;exact ⟨.mk n0 n1 n2 n3 n4 n5,.cons (zd7 v0) (.cons (zd1 v1) (.cons (zd1 v2) (.cons (v3) (.cons (v4) (.cons (v5) .nil)))))⟩
theorem zq0 {fuel:Nat} {c:Value} {x:DataW H × List MemPlace} (h:DataW.trod enc Tryz.prog W 0 (fun _=>true) true fuel 25 [c]=some x) (hw:Okw 25 x.1):∃ l:List St,zde W Tu (.list l.length (za2 l)) c:=zmo (fun n _=>zzx n) h hw
theorem zzy (fuel:Nat):∀ cs y,DataW.trod enc Tryz.prog W 0 (fun _=>true) true fuel 170 cs=some y->Okw 170 y.1->∃ z:De,zbe W Tu z.ds cs:=by
 intro cs y h hw;obtain ⟨xs,m,hm,hx,hl,hlen,hf⟩:=vbz Tryz.underlying170 h;subst hx;rw [cD] at hl
 match xs,hlen,cs,hl with
 | [y0,y1,y2,y3],_,[e0,e1,e2,e3],_=>
   simp only [Okw,DataW.weights,Tryz.underlying170,vbq,vcu,DataW.weightsEach,vaw,van,vcn] at hw
   have f0:DataW.trod enc Tryz.prog W 0 (fun _=>true) true m 3 [e0]=some y0:=by have:=hf 0 _ rfl;simpa [cI] using this
   have f1:DataW.trod enc Tryz.prog W 0 (fun _=>true) true m 9 [e1]=some y1:=by have:=hf 1 _ rfl;simpa [cS] using this
   have f2:DataW.trod enc Tryz.prog W 0 (fun _=>true) true m 4 [e2]=some y2:=by have:=hf 2 _ rfl;simpa [cB] using this
   have f3:DataW.trod enc Tryz.prog W 0 (fun _=>true) true m 3 [e3]=some y3:=by have:=hf 3 _ rfl;simpa [cI] using this
   obtain ⟨w0,w1,w2,w3,_⟩:=hw;obtain ⟨n0,z0,_,v0⟩:=vcj Tryz.underlying3 f0;simp at z0;subst z0;obtain ⟨n1,z1,_,v1⟩:=vbh Tryz.underlying9 f1;simp at z1;subst z1;obtain ⟨n2,z2,_⟩:=DataW.trod_bool Tryz.underlying4 f2;simp at z2;subst z2;obtain ⟨n3,z3,_,v3⟩:=vcj Tryz.underlying3 f3;simp at z3;subst z3;exact ⟨⟨n0,n1,n2,n3⟩,.cons (zd7 v0) (.cons (zd1 v1) (.cons (zs4) (.cons (zd7 v3) .nil)))⟩
end
end Go.Proofs.YtndkhgakfodldaaGreatDoor
