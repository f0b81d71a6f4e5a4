import Derived.Test.YtndkhgakfodldaaGreatDoorOl
import Derived.Test.YtndkhgakfodldaaGreatDoorRf
namespace Go.Proofs.YtndkhgakfodldaaGreatDoor
set_option maxRecDepth 100000
open Go.ChangeShapes Go.WideShapes Go.ChangeAt Go.RowKit Go.Deep
namespace bulks
theorem z08 {H:Type} (d:DataW H):1<=Rows.uptoBulk d:=by
 cases d with
 | lit l=>cases l<;>simp [Rows.uptoBulk]
 | _=>simp [Rows.uptoBulk]
theorem part_le {H:Type} {d:DataW H}:∀ {l:List (DataW H)},d ∈ l->Rows.uptoBulk d<=Rows.uptoBulkAll l
 | x :: r,h=>by
   simp only [Rows.uptoBulkAll]
   rcases vbo.1 h with e | e
   . subst e;omega
   . have:=part_le e;omega
theorem length_le {H:Type}:∀ l:List (DataW H),l.length<=Rows.uptoBulkAll l
 | []=>by simp [Rows.uptoBulkAll]
 | x :: r=>by
   have h1:=z08 x;have h2:=length_le r;simp only [Rows.uptoBulkAll,vax];omega
theorem slice_elems {H:Type} (elems spare:List (DataW H)):Rows.uptoBulkAll elems+1<=Rows.uptoBulk (.slice elems spare):=by
 simp only [Rows.uptoBulk];omega
end bulks
theorem zll {H:Type} {enc:TypeId × Value->H} {W:World} {α:Type} {t e:TypeId} {k:Nat} (ht:Tryz.prog.underlying t=some (.slice e)) (hc:Tryz.prog.cellsOf e=k) (hk:0<k) (hby:8*k<=Tryz.prog.bytesOf e)
 (f:α->List D) (Q:α->Prop) {fuel:Nat} (hel:∀ n,n<fuel->∀ cs y,DataW.trod enc Tryz.prog W 0 (fun _=>true) true n e cs=some y->Okw e y.1->∃ z:α,zbe W Tu (f z) cs/\(Rows.uptoBulk y.1<=1048576->Q z))
 {c:Value} {x:DataW H × List MemPlace} (h:DataW.trod enc Tryz.prog W 0 (fun _=>true) true fuel t [c]=some x) (hw:Okw t x.1):∃ l:List α,zde W Tu (.list l.length (l.flatMap f)) c/\(Rows.uptoBulk x.1<=1048576->l.length<=1048576/\∀ z ∈ l,Q z):=by
 rcases DataW.trod_slice ht h with ⟨hcs,hx⟩ | ⟨a,len,cap,elems,rest,n,rfl,hcs,hx,_,hl,hm,hlen,hel1,_,_⟩
 . simp at hcs
   subst hcs;exact ⟨[],zly,fun _=>⟨by simp,by simp⟩⟩
 . simp at hcs
   subst hcs;subst hx;simp only [Okw,DataW.weights,ht,vbs,vaw,van,decide_eq_true_eq] at hw;obtain ⟨hw1,hw2,_⟩:=hw;rw [vbm,vbm] at hw1
   have hlb:len*k<=17592186044416:=by
    have h1:(elems.length+rest.length)*(8*k)<=reachBytes:=vbe (Nat.mul_le_mul_left _ hby) hw1;have h2:elems.length*(8*k)<=(elems.length+rest.length)*(8*k):=Nat.mul_le_mul_right _ (by omega)
    have h3:elems.length*(8*k)=8*(len*k):=by rw [hlen];rw [Nat.mul_left_comm]
    unfold reachBytes at h1;omega
   have key:∀ m,m<=len->∃ (l:List α) (cs:List Value),l.length=m/\cs.length=m*k/\(∀ j u,cs[j]? = some u->W.cell? (a.add j)=some u)/\zbe W Tu (l.flatMap f) cs/\(Rows.uptoBulkAll (elems.map Prod.fst)<=1048576->∀ z ∈ l,Q z):=by
    intro m
    induction m with
    | zero=>intro _;exact ⟨[],[],rfl,by simp,(fun j u hj=>by simp at hj),.nil,(fun _ z hz=>by cases hz)⟩
    | succ m ih=>
      intro hm';obtain ⟨l,cs,h1,h2,h3,h4,h5⟩:=ih (by omega);have he:=hel1 m (by omega);rw [hc] at he
      have hme:m<elems.length:=by omega
      rw [vba hme] at he;obtain ⟨cs',hc1,hc2⟩:=Option.bind_eq_some_iff.1 he;obtain ⟨_,hcl,hcell⟩:=World.cells?_some hc1;obtain ⟨z,hz,hq⟩:=hel n (by omega) cs' elems[m] hc2 (zu6 (vcg.2 ⟨_,vah hme,rfl⟩) hw2);refine ⟨l++[z],cs++cs',by simp [h1],by simp [h2,hcl,vea],fun j u hj=>?_,?_,fun hb y hy=>?_⟩
      . rcases vbk j cs.length with hlt | hge
        . rw [vbf hlt] at hj;exact h3 j u hj
        . rw [vbb hge] at hj
          have hr:j - cs.length<k:=by
           rcases vbk (j - cs.length) k with h | h
           . exact h
           . rw [vct (by omega)] at hj;cases hj
          have:=hcell (j - cs.length) hr;rw [add_add,hj,show m*k+(j - cs.length)=j from by omega] at this;exact this
      . rw [vdj]
        simp only [vcw,List.flatMap_nil,vbw];exact h4.append hz
      . rcases vca.1 hy with hy | hy
        . exact h5 hb y hy
        . simp at hy
          subst hy;exact hq (vbe (bulks.part_le (vcg.2 ⟨_,vah hme,rfl⟩)) hb)
   obtain ⟨l,cs,h1,h2,h3,h4,h5⟩:=key len (vaa _)
   rcases vdm len with h0 | h0
   . subst h0
     exact ⟨[],zly,fun _=>⟨by simp,by simp⟩⟩
   . have hlen2:=h4.len
     obtain ⟨b,off,spot⟩:=a
     have hpos:0<cs.length:=by rw [h2];exact Nat.mul_pos h0 hk
     have hc0:=h3 0 cs[0] (vba hpos)
     have hspot:spot=none:=by simpa [Addr.add] using World.cell?_spot hc0
     subst hspot;refine ⟨l,?_,fun hb=>?_⟩
     rotate_left
     . have hb1:=bulks.slice_elems (elems.map Prod.fst) (rest.map Prod.fst)
       have hb2:=bulks.length_le (elems.map Prod.fst);rw [vbm] at hb2;have hb3:Rows.uptoBulk (DataW.slice (elems.map Prod.fst) (rest.map Prod.fst))<=1048576:=hb;exact ⟨by omega,h5 (by omega)⟩
     rw [h1];have hle:len<=len*k:=Nat.le_mul_of_pos_right _ hk;refine z1n (by omega) (by omega) trivial ?_ (fun j u hj=>?_) h4
     . have:=World.block_lt_of_cell? W _ hc0
       simpa [Addr.add] using this
     . have:=h3 j u hj
       rw [add_plain] at this;exact this
section
variable {H:Type} {enc:TypeId × Value->H} {W:World}
theorem zlm {fuel:Nat} {c:Value} {x:DataW H × List MemPlace} (h:DataW.trod enc Tryz.prog W 0 (fun _=>true) true fuel 22 [c]=some x) (hw:Okw 22 x.1):∃ l:List ByteArray,zde W Tu (.list l.length (zan l)) c/\(Rows.uptoBulk x.1<=1048576->l.length<=1048576):=by
 obtain ⟨l,hl,hb⟩:=zll (α:=ByteArray) Tryz.underlying22 cS (by omega) (by rw [bS];omega) (fun s=>[D.str s]) (fun _=>True) (fun n _ cs y hy _=>by
  obtain ⟨s,rfl,_,hs⟩:=vbh Tryz.underlying9 hy
  exact ⟨s,.cons (zd1 hs) .nil,fun _=>trivial⟩) h hw
 rw [zn4] at hl;exact ⟨l,hl,fun h=>(hb h).1⟩
theorem zxj (fuel:Nat):∀ cs y,DataW.trod enc Tryz.prog W 0 (fun _=>true) true fuel 118 cs=some y->Okw 118 y.1->∃ z:Pr,zbe W Tu z.ds cs/\(Rows.uptoBulk y.1<=1048576->z.params.length<=1048576/\z.locals.length<=1048576):=by
 intro cs y h hw;obtain ⟨xs,m,hm,hx,hl,hlen,hf⟩:=vbz Tryz.underlying118 h;subst hx;rw [cP] at hl
 match xs,hlen,cs,hl with
 | [y0,y1,y2,y3,y4],_,[e0,e1,e2,e3,e4],_=>
   simp only [Okw,DataW.weights,Tryz.underlying118,vbq,vcu,DataW.weightsEach,vaw,van,vcn] at hw
   have f0:DataW.trod enc Tryz.prog W 0 (fun _=>true) true m 9 [e0]=some y0:=by have:=hf 0 _ rfl;simpa [cS] using this
   have f1:DataW.trod enc Tryz.prog W 0 (fun _=>true) true m 4 [e1]=some y1:=by have:=hf 1 _ rfl;simpa [cB] using this
   have f2:DataW.trod enc Tryz.prog W 0 (fun _=>true) true m 22 [e2]=some y2:=by have:=hf 2 _ rfl;simpa [cLT] using this
   have f3:DataW.trod enc Tryz.prog W 0 (fun _=>true) true m 22 [e3]=some y3:=by have:=hf 3 _ rfl;simpa [cLT] using this
   have f4:DataW.trod enc Tryz.prog W 0 (fun _=>true) true m 25 [e4]=some y4:=by have:=hf 4 _ rfl;simpa [cLS] using this
   obtain ⟨w0,w1,w2,w3,w4,_⟩:=hw;obtain ⟨n0,z0,_,v0⟩:=vbh Tryz.underlying9 f0;simp at z0;subst z0;obtain ⟨n1,z1,_⟩:=DataW.trod_bool Tryz.underlying4 f1;simp at z1;subst z1;obtain ⟨n2,v2,b2⟩:=zlm f2 w2;obtain ⟨n3,v3,b3⟩:=zlm f3 w3;obtain ⟨n4,v4⟩:=zq0 f4 w4;refine ⟨⟨n0,n1,n2,n3,n4⟩,.cons (zd1 v0) (.cons (zs4) (.cons (v2) (.cons (v3) (.cons (v4) .nil)))),fun hb=>?_⟩;have hb':Rows.uptoBulk (DataW.agg [y0.1,y1.1,y2.1,y3.1,y4.1])<=1048576:=hb;simp only [Rows.uptoBulk,Rows.uptoBulkAll] at hb';exact ⟨b2 (by omega),b3 (by omega)⟩
theorem zxk (fuel:Nat):∀ cs y,DataW.trod enc Tryz.prog W 0 (fun _=>true) true fuel 27 cs=some y->Okw 27 y.1->∃ z:Mo,zbe W Tu z.ds cs/\(Rows.uptoBulk y.1<=1048576->Small z):=by
 intro cs y h hw;obtain ⟨xs,m,hm,hx,hl,hlen,hf⟩:=vbz Tryz.underlying27 h;subst hx;rw [cM] at hl
 match xs,hlen,cs,hl with
 | [y0,y1,y2,y3,y4],_,[e0,e1,e2,e3,e4],_=>
   simp only [Okw,DataW.weights,Tryz.underlying27,vbq,vcu,DataW.weightsEach,vaw,van,vcn] at hw
   have f0:DataW.trod enc Tryz.prog W 0 (fun _=>true) true m 9 [e0]=some y0:=by have:=hf 0 _ rfl;simpa [cS] using this
   have f1:DataW.trod enc Tryz.prog W 0 (fun _=>true) true m 22 [e1]=some y1:=by have:=hf 1 _ rfl;simpa [cLT] using this
   have f2:DataW.trod enc Tryz.prog W 0 (fun _=>true) true m 23 [e2]=some y2:=by have:=hf 2 _ rfl;simpa [cLD] using this
   have f3:DataW.trod enc Tryz.prog W 0 (fun _=>true) true m 24 [e3]=some y3:=by have:=hf 3 _ rfl;simpa [cLP] using this
   have f4:DataW.trod enc Tryz.prog W 0 (fun _=>true) true m 25 [e4]=some y4:=by have:=hf 4 _ rfl;simpa [cLS] using this
   obtain ⟨w0,w1,w2,w3,w4,_⟩:=hw;obtain ⟨n0,z0,_,v0⟩:=vbh Tryz.underlying9 f0;simp at z0;subst z0;obtain ⟨n1,v1⟩:=zu7 f1 w1;obtain ⟨n2,v2⟩:=zeo (α:=De) Tryz.underlying23 cD (by omega) (by rw [bD];omega) De.ds (fun n _=>zzy n) f2 w2;obtain ⟨n3,v3,b3⟩:=zll (α:=Pr) Tryz.underlying24 cP (by omega) (by rw [bP];omega) Pr.ds (fun z=>z.params.length<=1048576/\z.locals.length<=1048576) (fun n _=>zxj n) f3 w3;obtain ⟨n4,v4⟩:=zq0 f4 w4;refine ⟨⟨n0,n1,n2,n3,n4⟩,.cons (zd1 v0) (.cons (v1) (.cons (v2) (.cons (v3) (.cons (v4) .nil)))),fun hb=>?_⟩;have hb':Rows.uptoBulk (DataW.agg [y0.1,y1.1,y2.1,y3.1,y4.1])<=1048576:=hb;simp only [Rows.uptoBulk,Rows.uptoBulkAll] at hb';exact (b3 (by omega)).2
end
end Go.Proofs.YtndkhgakfodldaaGreatDoor
