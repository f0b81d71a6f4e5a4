/-
  What comes in, opened: lists of modules with all that lies in them.
-/
import Derived.Test.YtndkhgakfodldaaGreatDoorTd
import Derived.Test.YtndkhgakfodldaaGreatDoorRows
import Derived.WalkKit
import Derived.ProofKit
import Derived.OpenShut
import Derived.SizedLaws
import Derived.Deep.Strs
namespace Go.Proofs.YtndkhgakfodldaaGreatDoor
set_option maxRecDepth 100000
open Go.ChangeShapes Go.WideShapes Go.ChangeAt Go.RowKit Go.Deep
abbrev Tu:Nat->Prop:=fun _=>True
def Okw {H:Type} (t:TypeId) (d:DataW H):Prop:=(DataW.weights Tryz.prog t d).all (·<=reachBytes)=true
theorem all_in {H:Type} {e:TypeId} {d:DataW H}:∀ {l:List (DataW H)},d ∈ l->(DataW.weightsAll Tryz.prog e l).all (·<=reachBytes)=true->Okw e d
 | x :: r,hm,h=>by
   simp only [DataW.weightsAll,List.all_append,Bool.and_eq_true] at h
   rcases List.mem_cons.1 hm with rfl | hm
   . exact h.1
   . exact all_in hm h.2
theorem open_list {H:Type} {enc:TypeId × Value->H} {W:World} {α:Type} {t e:TypeId} {k:Nat} (ht:Tryz.prog.underlying t=some (.slice e)) (hc:Tryz.prog.cellsOf e=k) (hk:0<k) (hby:8*k<=Tryz.prog.bytesOf e)
 (f:α->List D) {fuel:Nat} (hel:∀ n,n<fuel->∀ cs y,DataW.trod enc Tryz.prog W 0 (fun _=>true) true n e cs=some y->Okw e y.1->∃ z:α,DVals W Tu (f z) cs)
 {c:Value} {x:DataW H × List MemPlace} (h:DataW.trod enc Tryz.prog W 0 (fun _=>true) true fuel t [c]=some x) (hw:Okw t x.1):∃ l:List α,DVal W Tu (.list l.length (l.flatMap f)) c:=by
 rcases DataW.trod_slice ht h with ⟨hcs,hx⟩ | ⟨a,len,cap,elems,rest,n,rfl,hcs,hx,_,hl,hm,hlen,hel1,_,_⟩
 . simp at hcs
   subst hcs;exact ⟨[],dnil⟩
 . simp at hcs
   subst hcs;subst hx;simp only [Okw,DataW.weights,ht,List.all_cons,List.all_append,Bool.and_eq_true,decide_eq_true_eq] at hw;obtain ⟨hw1,hw2,_⟩:=hw;rw [List.length_map,List.length_map] at hw1
   have hlb:len*k<=17592186044416:=by
    have h1:(elems.length+rest.length)*(8*k)<=reachBytes:=Nat.le_trans (Nat.mul_le_mul_left _ hby) hw1;have h2:elems.length*(8*k)<=(elems.length+rest.length)*(8*k):=Nat.mul_le_mul_right _ (by omega)
    have h3:elems.length*(8*k)=8*(len*k):=by rw [hlen];rw [Nat.mul_left_comm]
    unfold reachBytes at h1;omega
   have key:∀ m,m<=len->∃ (l:List α) (cs:List Value),l.length=m/\cs.length=m*k/\(∀ j u,cs[j]? = some u->W.cell? (a.add j)=some u)/\DVals W Tu (l.flatMap f) cs:=by
    intro m
    induction m with
    | zero=>intro _;exact ⟨[],[],rfl,by simp,(fun j u hj=>by simp at hj),.nil⟩
    | succ m ih=>
      intro hm';obtain ⟨l,cs,h1,h2,h3,h4⟩:=ih (by omega);have he:=hel1 m (by omega);rw [hc] at he
      have hme:m<elems.length:=by omega
      rw [List.getElem?_eq_getElem hme] at he;obtain ⟨cs',hc1,hc2⟩:=Option.bind_eq_some_iff.1 he;obtain ⟨_,hcl,hcell⟩:=World.cells?_some hc1;obtain ⟨z,hz⟩:=hel n (by omega) cs' elems[m] hc2 (all_in (List.mem_map.2 ⟨_,List.getElem_mem hme,rfl⟩) hw2);refine ⟨l++[z],cs++cs',by simp [h1],by simp [h2,hcl,Nat.succ_mul],fun j u hj=>?_,?_⟩
      . rcases Nat.lt_or_ge j cs.length with hlt | hge
        . rw [List.getElem?_append_left hlt] at hj;exact h3 j u hj
        . rw [List.getElem?_append_right hge] at hj
          have hr:j - cs.length<k:=by
           rcases Nat.lt_or_ge (j - cs.length) k with h | h
           . exact h
           . rw [List.getElem?_eq_none (by omega)] at hj;cases hj
          have:=hcell (j - cs.length) hr;rw [add_add,hj,show m*k+(j - cs.length)=j from by omega] at this;exact this
      . rw [List.flatMap_append]
        simp only [List.flatMap_cons,List.flatMap_nil,List.append_nil];exact h4.append hz
   obtain ⟨l,cs,h1,h2,h3,h4⟩:=key len (Nat.le_refl _)
   rcases Nat.eq_zero_or_pos len with h0 | h0
   . subst h0
     exact ⟨[],dnil⟩
   . have hlen2:=h4.len
     obtain ⟨b,off,spot⟩:=a
     have hpos:0<cs.length:=by rw [h2];exact Nat.mul_pos h0 hk
     have hc0:=h3 0 cs[0] (List.getElem?_eq_getElem hpos)
     have hspot:spot=none:=by simpa [Addr.add] using World.cell?_spot hc0
     subst hspot;refine ⟨l,?_⟩;rw [h1];have hle:len<=len*k:=Nat.le_mul_of_pos_right _ hk;refine dlist (by omega) (by omega) trivial ?_ (fun j u hj=>?_) h4
     . have:=World.block_lt_of_cell? W _ hc0
       simpa [Addr.add] using this
     . have:=h3 j u hj
       rw [add_plain] at this;exact this
theorem strs_flat (l:List ByteArray):l.flatMap (fun s=>[D.str s])=strsD l:=by
 induction l with
 | nil=>rfl
 | cons x r ih=>simp only [List.flatMap_cons,ih,strsD,List.map_cons];rfl
theorem cI:Tryz.prog.cellsOf 3=1:=by kernel_rfl
theorem cS:Tryz.prog.cellsOf 9=1:=by kernel_rfl
theorem cLT:Tryz.prog.cellsOf 22=1:=by kernel_rfl
theorem bS:Tryz.prog.bytesOf 9=16:=by kernel_rfl
section
variable {H:Type} {enc:TypeId × Value->H} {W:World}
theorem open_strs {fuel:Nat} {c:Value} {x:DataW H × List MemPlace} (h:DataW.trod enc Tryz.prog W 0 (fun _=>true) true fuel 22 [c]=some x) (hw:Okw 22 x.1):∃ l:List ByteArray,DVal W Tu (.list l.length (strsD l)) c:=by
 obtain ⟨l,hl⟩:=open_list (α:=ByteArray) Tryz.underlying22 cS (by omega) (by rw [bS];omega) (fun s=>[D.str s]) (fun n _ cs y hy _=>by
  obtain ⟨s,rfl,_,hs⟩:=DataW.trod_string Tryz.underlying9 hy
  exact ⟨s,.cons (dstr hs) .nil⟩) h hw
 rw [strs_flat] at hl;exact ⟨l,hl⟩
end
end Go.Proofs.YtndkhgakfodldaaGreatDoor
