import Derived.Test.YtndkhgakfodldaaGreatDoorTd
import Derived.Test.YtndkhgakfodldaaGreatDoorRows
import Derived.ProofKit
import Derived.OpenShut
import Derived.Deep.Strs
namespace Go.Proofs.YtndkhgakfodldaaGreatDoor
set_option maxRecDepth 100000
open Go.ChangeShapes Go.WideShapes Go.ChangeAt Go.RowKit Go.Deep
abbrev Tu:Nat->Prop:=fun _=>True
def Okw {H:Type} (t:TypeId) (d:DataW H):Prop:=(DataW.weights Tryz.prog t d).all (·<=reachBytes)=true
theorem zxe {H:Type} {e:TypeId} {d:DataW H}:∀ {l:List (DataW H)},d ∈ l->(DataW.weightsAll Tryz.prog e l).all (·<=reachBytes)=true->Okw e d
 | x :: r,hm,h=>by
   simp only [DataW.weightsAll,vbo,vab] at h
   rcases vby.1 hm with rfl | hm
   . exact h.1
   . exact zxe hm h.2
theorem zfu {H:Type} {enc:TypeId × Value->H} {W:World} {α:Type} {t e:TypeId} {k:Nat} (ht:Tryz.prog.underlying t=some (.slice e)) (hc:Tryz.prog.cellsOf e=k) (hk:0<k) (Dg:8*k<=Tryz.prog.bytesOf e)
 (f:α->List D) {Az:Nat} (Ei:∀ n,n<Az->∀ cs y,DataW.trod enc Tryz.prog W 0 (fun _=>true) true n e cs=some y->Okw e y.1->∃ z:α,zan W Tu (f z) cs)
 {c:Value} {x:DataW H × List MemPlace} (h:DataW.trod enc Tryz.prog W 0 (fun _=>true) true Az t [c]=some x) (hw:Okw t x.1):∃ l:List α,zcv W Tu (.list l.length (l.flatMap f)) c:=by
 rcases vdk ht h with ⟨AY,hx⟩ | ⟨a,len,cap,elems,rest,n,rfl,AY,hx,_,hl,hm,Ai,hel1,_,_⟩
 . simp at AY
   subst AY;exact ⟨[],zov⟩
 . simp at AY
   subst AY;subst hx;simp only [Okw,DataW.weights,ht,vcy,vbo,vab,decide_eq_true_eq] at hw;obtain ⟨Cm,DT,_⟩:=hw;rw [vcq,vcq] at Cm
   have B9:len*k<=17592186044416:=by
    have h1:(elems.length+rest.length)*(8*k)<=reachBytes:=vbd (Nat.mul_le_mul_left _ Dg) Cm;have h2:elems.length*(8*k)<=(elems.length+rest.length)*(8*k):=vdn _ (by omega)
    have h3:elems.length*(8*k)=8*(len*k):=by rw [Ai];rw [Nat.mul_left_comm]
    unfold reachBytes at h1;omega
   have Ci:∀ m,m<=len->∃ (l:List α) (cs:List Value),l.length=m/\cs.length=m*k/\(∀ j u,cs[j]? = some u->W.cell? (a.add j)=some u)/\zan W Tu (l.flatMap f) cs:=by
    intro m
    induction m with
    | zero=>intro _;exact ⟨[],[],rfl,by simp,(fun j u hj=>by simp at hj),.nil⟩
    | succ m ih=>
      intro hm';obtain ⟨l,cs,h1,h2,h3,h4⟩:=ih (by omega);have he:=hel1 m (by omega);rw [hc] at he
      have FW:m<elems.length:=by omega
      rw [vac FW] at he;obtain ⟨cs',Bg,C1⟩:=Option.bind_eq_some_iff.1 he;obtain ⟨_,DY,hcell⟩:=World.cells?_some Bg;obtain ⟨z,hz⟩:=Ei n (by omega) cs' elems[m] C1 (zxe (vcw.2 ⟨_,vag FW,rfl⟩) DT);refine ⟨l++[z],cs++cs',by simp [h1],by simp [h2,DY,Nat.succ_mul],fun j u hj=>?_,?_⟩
      . rcases vbi j cs.length with A0 | Fu
        . rw [vba A0] at hj;exact h3 j u hj
        . rw [vbh Fu] at hj
          have hr:j - cs.length<k:=by
           rcases vbi (j - cs.length) k with h | h
           . exact h
           . rw [vbv (by omega)] at hj;cases hj
          have:=hcell (j - cs.length) hr;rw [add_add,hj,show m*k+(j - cs.length)=j from by omega] at this;exact this
      . rw [vdq]
        simp only [vbj,List.flatMap_nil,vdb];exact h4.append hz
   obtain ⟨l,cs,h1,h2,h3,h4⟩:=Ci len (vaa _)
   rcases vdx len with h0 | h0
   . subst h0
     exact ⟨[],zov⟩
   . have Oe:=h4.len
     obtain ⟨b,off,spot⟩:=a
     have J4:0<cs.length:=by rw [h2];exact Nat.mul_pos h0 hk
     have CB:=h3 0 cs[0] (vac J4)
     have J2:spot=none:=by simpa [Addr.add] using World.cell?_spot CB
     subst J2;refine ⟨l,?_⟩;rw [h1];have Ee:len<=len*k:=Nat.le_mul_of_pos_right _ hk;refine z7x (by omega) (by omega) trivial ?_ (fun j u hj=>?_) h4
     . have:=World.block_lt_of_cell? W _ CB
       simpa [Addr.add] using this
     . have:=h3 j u hj
       rw [add_plain] at this;exact this
theorem zxf (l:List ByteArray):l.flatMap (fun s=>[D.str s])=zaw l:=by
 induction l with
 | nil=>rfl
 | cons x r ih=>simp only [vbj,ih,zaw,vcm];rfl
theorem cI:Tryz.prog.cellsOf 3=1:=by kernel_rfl
theorem cS:Tryz.prog.cellsOf 9=1:=by kernel_rfl
theorem cLT:Tryz.prog.cellsOf 22=1:=by kernel_rfl
theorem bS:Tryz.prog.bytesOf 9=16:=by kernel_rfl
section
variable {H:Type} {enc:TypeId × Value->H} {W:World}
theorem zxg {Az:Nat} {c:Value} {x:DataW H × List MemPlace} (h:DataW.trod enc Tryz.prog W 0 (fun _=>true) true Az 22 [c]=some x) (hw:Okw 22 x.1):∃ l:List ByteArray,zcv W Tu (.list l.length (zaw l)) c:=by
 obtain ⟨l,hl⟩:=zfu (α:=ByteArray) Tryz.underlying22 cS (by omega) (by rw [bS];omega) (fun s=>[D.str s]) (fun n _ cs y hy _=>by
  obtain ⟨s,rfl,_,hs⟩:=DataW.trod_string Tryz.underlying9 hy
  exact ⟨s,.cons (zed hs) .nil⟩) h hw
 rw [zxf] at hl;exact ⟨l,hl⟩
end
end Go.Proofs.YtndkhgakfodldaaGreatDoor
