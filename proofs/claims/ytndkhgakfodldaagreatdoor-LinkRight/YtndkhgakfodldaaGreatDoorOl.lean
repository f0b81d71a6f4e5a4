import Derived.Test.YtndkhgakfodldaaGreatDoorTd
import Derived.Test.YtndkhgakfodldaaGreatDoorRows
import Derived.ProofKit
import Derived.OpenShut
import Derived.Deep.Strs
namespace Go.Proofs.YtndkhgakfodldaaGreatDoor
set_option maxRecDepth 100000
open Go.ChangeShapes Go.WideShapes Go.ChangeAt Go.RowKit Go.Deep
abbrev Tu:Nat->Prop:=fun _=>True
def Okw {H:Type} (t:TypeId) (d:DataW H):Prop:=(DataW.weights Tryz.prog t d).all (·<=reachBytes)=true
theorem zy2 {H:Type} {e:TypeId} {d:DataW H}:∀ {l:List (DataW H)},d ∈ l->(DataW.weightsAll Tryz.prog e l).all (·<=reachBytes)=true->Okw e d
 | x :: r,hm,h=>by
   simp only [DataW.weightsAll,vbm,vac] at h
   rcases vca.1 hm with rfl | hm
   . exact h.1
   . exact zy2 hm h.2
theorem zf6 {H:Type} {enc:TypeId × Value->H} {W:World} {α:Type} {t e:TypeId} {k:Nat} (ht:Tryz.prog.underlying t=some (.slice e)) (hc:Tryz.prog.cellsOf e=k) (hk:0<k) (Dr:8*k<=Tryz.prog.bytesOf e)
 (f:α->List D) {AE:Nat} (ES:∀ n,n<AE->∀ cs y,DataW.trod enc Tryz.prog W 0 (fun _=>true) true n e cs=some y->Okw e y.1->∃ z:α,zap W Tu (f z) cs)
 {c:Value} {x:DataW H × List MemPlace} (h:DataW.trod enc Tryz.prog W 0 (fun _=>true) true AE t [c]=some x) (hw:Okw t x.1):∃ l:List α,zc7 W Tu (.list l.length (l.flatMap f)) c:=by
 rcases vdw ht h with ⟨Bl,hx⟩ | ⟨a,len,cap,elems,rest,n,rfl,Bl,hx,_,hl,hm,Ah,hel1,_,_⟩
 . simp at Bl
   subst Bl;exact ⟨[],zpv⟩
 . simp at Bl
   subst Bl;subst hx;simp only [Okw,DataW.weights,ht,vcr,vbm,vac,decide_eq_true_eq] at hw;obtain ⟨CK,BJ,_⟩:=hw;rw [vcp,vcp] at CK
   have C4:len*k<=17592186044416:=by
    have h1:(elems.length+rest.length)*(8*k)<=reachBytes:=vbc (Nat.mul_le_mul_left _ Dr) CK;have h2:elems.length*(8*k)<=(elems.length+rest.length)*(8*k):=vdi _ (by omega)
    have h3:elems.length*(8*k)=8*(len*k):=by rw [Ah];rw [Nat.mul_left_comm]
    unfold reachBytes at h1;omega
   have Cy:∀ m,m<=len->∃ (l:List α) (cs:List Value),l.length=m/\cs.length=m*k/\(∀ j u,cs[j]? = some u->W.cell? (a.add j)=some u)/\zap W Tu (l.flatMap f) cs:=by
    intro m
    induction m with
    | zero=>intro _;exact ⟨[],[],rfl,by simp,(fun j u hj=>by simp at hj),.nil⟩
    | succ m ih=>
      intro hm';obtain ⟨l,cs,h1,h2,h3,h4⟩:=ih (by omega);have he:=hel1 m (by omega);rw [hc] at he
      have Gg:m<elems.length:=by omega
      rw [vae Gg] at he;obtain ⟨KS,Be,BU⟩:=Option.bind_eq_some_iff.1 he;obtain ⟨_,Dp,hcell⟩:=World.cells?_some Be;obtain ⟨z,hz⟩:=ES n (by omega) KS elems[m] BU (zy2 (vch.2 ⟨_,vaj Gg,rfl⟩) BJ);refine ⟨l++[z],cs++KS,by simp [h1],by simp [h2,Dp,Nat.succ_mul],fun j u hj=>?_,?_⟩
      . rcases vbg j cs.length with A4 | FO
        . rw [vbb A4] at hj;exact h3 j u hj
        . rw [vbd FO] at hj
          have hr:j - cs.length<k:=by
           rcases vbg (j - cs.length) k with h | h
           . exact h
           . rw [vbq (by omega)] at hj;cases hj
          have:=hcell (j - cs.length) hr;rw [add_add,hj,show m*k+(j - cs.length)=j from by omega] at this;exact this
      . rw [vdk]
        simp only [vbf,List.flatMap_nil,vcl];exact h4.append hz
   obtain ⟨l,cs,h1,h2,h3,h4⟩:=Cy len (vaa _)
   rcases vda len with h0 | h0
   . subst h0
     exact ⟨[],zpv⟩
   . have Oa:=h4.len
     obtain ⟨b,off,spot⟩:=a
     have FI:0<cs.length:=by rw [h2];exact Nat.mul_pos h0 hk
     have Ct:=h3 0 cs[0] (vae FI)
     have IY:spot=none:=by simpa [Addr.add] using World.cell?_spot Ct
     subst IY;refine ⟨l,?_⟩;rw [h1];have E8:len<=len*k:=Nat.le_mul_of_pos_right _ hk;refine z88 (by omega) (by omega) trivial ?_ (fun j u hj=>?_) h4
     . have:=World.block_lt_of_cell? W _ Ct
       simpa [Addr.add] using this
     . have:=h3 j u hj
       rw [add_plain] at this;exact this
theorem zy3 (l:List ByteArray):l.flatMap (fun s=>[D.str s])=zaj l:=by
 induction l with
 | nil=>rfl
 | cons x r ih=>simp only [vbf,ih,zaj,vcn];rfl
theorem cI:Tryz.prog.cellsOf 3=1:=by kernel_rfl
theorem cS:Tryz.prog.cellsOf 9=1:=by kernel_rfl
theorem cLT:Tryz.prog.cellsOf 22=1:=by kernel_rfl
theorem bS:Tryz.prog.bytesOf 9=16:=by kernel_rfl
section
variable {H:Type} {enc:TypeId × Value->H} {W:World}
theorem zy4 {AE:Nat} {c:Value} {x:DataW H × List MemPlace} (h:DataW.trod enc Tryz.prog W 0 (fun _=>true) true AE 22 [c]=some x) (hw:Okw 22 x.1):∃ l:List ByteArray,zc7 W Tu (.list l.length (zaj l)) c:=by
 obtain ⟨l,hl⟩:=zf6 (α:=ByteArray) Tryz.underlying22 cS (by omega) (by rw [bS];omega) (fun s=>[D.str s]) (fun n _ cs y hy _=>by
  obtain ⟨s,rfl,_,hs⟩:=DataW.trod_string Tryz.underlying9 hy
  exact ⟨s,.cons (zeu hs) .nil⟩) h hw
 rw [zy3] at hl;exact ⟨l,hl⟩
end
end Go.Proofs.YtndkhgakfodldaaGreatDoor
