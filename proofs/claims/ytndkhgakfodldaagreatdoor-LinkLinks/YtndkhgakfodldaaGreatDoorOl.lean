import Derived.Test.YtndkhgakfodldaaGreatDoorTd
import Derived.Test.YtndkhgakfodldaaGreatDoorRows
import Derived.ProofKit
import Derived.OpenShut
import Derived.Deep.Strs
namespace Go.Proofs.YtndkhgakfodldaaGreatDoor
set_option maxRecDepth 100000
open Go.ChangeShapes Go.WideShapes Go.ChangeAt Go.RowKit Go.Deep
abbrev Tu:Nat->Prop:=fun _=>True
def Okw {H:Type} (t:TypeId) (d:DataW H):Prop:=(DataW.weights Tryz.prog t d).all (·<=reachBytes)=true
theorem zzp {H:Type} {e:TypeId} {d:DataW H}:∀ {l:List (DataW H)},d ∈ l->(DataW.weightsAll Tryz.prog e l).all (·<=reachBytes)=true->Okw e d
 | x :: r,hm,h=>by
   simp only [DataW.weightsAll,vbp,vac] at h
   rcases vby.1 hm with rfl | hm
   . exact h.1
   . exact zzp hm h.2
theorem zgo {H:Type} {enc:TypeId × Value->H} {W:World} {α:Type} {t e:TypeId} {k:Nat} (ht:Tryz.prog.underlying t=some (.slice e)) (hc:Tryz.prog.cellsOf e=k) (hk:0<k) (DF:8*k<=Tryz.prog.bytesOf e)
 (f:α->List D) {AB:Nat} (EW:∀ n,n<AB->∀ cs y,DataW.trod enc Tryz.prog W 0 (fun _=>true) true n e cs=some y->Okw e y.1->∃ z:α,zaq W Tu (f z) cs)
 {c:Value} {x:DataW H × List MemPlace} (h:DataW.trod enc Tryz.prog W 0 (fun _=>true) true AB t [c]=some x) (hw:Okw t x.1):∃ l:List α,zdg W Tu (.list l.length (l.flatMap f)) c:=by
 rcases vdm ht h with ⟨B5,hx⟩ | ⟨a,len,cap,elems,rest,n,rfl,B5,hx,_,hl,hm,Ah,hel1,_,_⟩
 . simp at B5
   subst B5;exact ⟨[],zqg⟩
 . simp at B5
   subst B5;subst hx;simp only [Okw,DataW.weights,ht,vcp,vbp,vac,decide_eq_true_eq] at hw;obtain ⟨Cw,BW,_⟩:=hw;rw [vct,vct] at Cw
   have Bd:len*k<=17592186044416:=by
    have h1:(elems.length+rest.length)*(8*k)<=reachBytes:=vbd (Nat.mul_le_mul_left _ DF) Cw;have h2:elems.length*(8*k)<=(elems.length+rest.length)*(8*k):=vdp _ ae
    have h3:elems.length*(8*k)=8*(len*k):=by rw [Ah];rw [Nat.mul_left_comm]
    unfold reachBytes at h1;omega
   have Cp:∀ m,m<=len->∃ (l:List α) (cs:List Value),l.length=m/\cs.length=m*k/\(∀ j u,cs[j]? = some u->W.cell? (a.add j)=some u)/\zaq W Tu (l.flatMap f) cs:=by
    intro m
    induction m with
    | zero=>intro _;exact ⟨[],[],rfl,aA,(fun j u hj=>by simp at hj),.nil⟩
    | succ m ih=>
      intro hm';obtain ⟨l,cs,h1,h2,h3,h4⟩:=ih ae;have he:=hel1 m ae;rw [hc] at he
      have GW:m<elems.length:=ae
      rw [vad GW] at he;obtain ⟨cs',Bk,C7⟩:=Option.bind_eq_some_iff.1 he;obtain ⟨_,Ew,hcell⟩:=World.cells?_some Bk;obtain ⟨z,hz⟩:=EW n ae cs' elems[m] C7 (zzp (vcy.2 ⟨_,vah GW,rfl⟩) BW);refine ⟨l++[z],cs++cs',cJ,by simp [h2,Ew,Nat.succ_mul],fun j u hj=>?_,?_⟩
      . rcases vbi j cs.length with A0 | Gn
        . rw [vbc A0] at hj;exact h3 j u hj
        . rw [vbh Gn] at hj
          have hr:j - cs.length<k:=by
           rcases vbi (j - cs.length) k with h | h
           . exact h
           . rw [vbv ae] at hj;cases hj
          have:=hcell (j - cs.length) hr;rw [add_add,hj,show m*k+(j - cs.length)=j from ae] at this;exact this
      . rw [vds]
        simp only [vbj,List.flatMap_nil,vch];exact h4.append hz
   obtain ⟨l,cs,h1,h2,h3,h4⟩:=Cp len (vaa _)
   rcases vde len with h0 | h0
   . subst h0
     exact ⟨[],zqg⟩
   . have Pz:=h4.len
     obtain ⟨b,off,spot⟩:=a
     have Gc:0<cs.length:=by rw [h2];exact Nat.mul_pos h0 hk
     have CL:=h3 0 cs[0] (vad Gc)
     have JU:spot=none:=by simpa [Addr.add] using World.cell?_spot CL
     subst JU;refine ⟨l,?_⟩;rw [h1];have Ev:len<=len*k:=Nat.le_mul_of_pos_right _ hk;refine z97 ae ae trivial ?_ (fun j u hj=>?_) h4
     . have:=World.block_lt_of_cell? W _ CL
       simpa [Addr.add] using this
     . have:=h3 j u hj
       rw [add_plain] at this;exact this
theorem zzq (l:List ByteArray):l.flatMap (fun s=>[D.str s])=zak l:=by
 induction l with
 | nil=>rfl
 | cons x r ih=>simp only [vbj,ih,zak,vco];rfl
theorem cI:Tryz.prog.cellsOf 3=1:=ah
theorem cS:Tryz.prog.cellsOf 9=1:=ah
theorem cLT:Tryz.prog.cellsOf 22=1:=ah
theorem bS:Tryz.prog.bytesOf 9=16:=ah
section
variable {H:Type} {enc:TypeId × Value->H} {W:World}
theorem zzr {AB:Nat} {c:Value} {x:DataW H × List MemPlace} (h:DataW.trod enc Tryz.prog W 0 (fun _=>true) true AB 22 [c]=some x) (hw:Okw 22 x.1):∃ l:List ByteArray,zdg W Tu (.list l.length (zak l)) c:=by
 obtain ⟨l,hl⟩:=zgo (α:=ByteArray) Tryz.underlying22 cS ae (by rw [bS];omega) (fun s=>[D.str s]) (fun n _ cs y hy _=>by
  obtain ⟨s,rfl,_,hs⟩:=DataW.trod_string Tryz.underlying9 hy
  exact ⟨s,.cons (ze7 hs) .nil⟩) h hw
 rw [zzq] at hl;exact ⟨l,hl⟩
end
end Go.Proofs.YtndkhgakfodldaaGreatDoor
