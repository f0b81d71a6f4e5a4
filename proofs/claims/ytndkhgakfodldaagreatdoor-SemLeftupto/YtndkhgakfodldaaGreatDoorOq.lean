import Derived.Test.YtndkhgakfodldaaGreatDoorOl
import Derived.Test.YtndkhgakfodldaaGreatDoorRb
namespace Go.Proofs.YtndkhgakfodldaaGreatDoor
set_option maxRecDepth 100000
open Go.ChangeShapes Go.WideShapes Go.ChangeAt Go.RowKit Go.Deep
namespace bulks
theorem z1u {H:Type} (d:DataW H):1<=Rows.uptoBulk d:=by
 cases d with
 | lit l=>cases l<;>simp [Rows.uptoBulk]
 | _=>simp [Rows.uptoBulk]
theorem part_le {H:Type} {d:DataW H}:∀ {l:List (DataW H)},d ∈ l->Rows.uptoBulk d<=Rows.uptoBulkAll l
 | x :: r,h=>by
   simp only [Rows.uptoBulkAll]
   rcases vci.1 h with e | e
   . subst e;omega
   . have:=part_le e;omega
theorem length_le {H:Type}:∀ l:List (DataW H),l.length<=Rows.uptoBulkAll l
 | []=>by simp [Rows.uptoBulkAll]
 | x :: r=>by
   have h1:=z1u x;have h2:=length_le r;simp only [Rows.uptoBulkAll,vat];omega
theorem slice_elems {H:Type} (elems spare:List (DataW H)):Rows.uptoBulkAll elems+1<=Rows.uptoBulk (.slice elems spare):=by
 simp only [Rows.uptoBulk];omega
end bulks
theorem zkt {H:Type} {enc:TypeId × Value->H} {W:World} {α:Type} {t e:TypeId} {k:Nat} (ht:Tryz.prog.underlying t=some (.slice e)) (hc:Tryz.prog.cellsOf e=k) (hk:0<k) (hby:8*k<=Tryz.prog.bytesOf e)
 (f:α->List D) (Q:α->Prop) {fuel:Nat} (hel:∀ n,n<fuel->∀ cs y,DataW.trod enc Tryz.prog W 0 (fun _=>true) true n e cs=some y->Okw e y.1->∃ z:α,DVals W Tu (f z) cs/\(Rows.uptoBulk y.1<=1048576->Q z))
 {c:Value} {x:DataW H × List MemPlace} (h:DataW.trod enc Tryz.prog W 0 (fun _=>true) true fuel t [c]=some x) (hw:Okw t x.1):∃ l:List α,zck W Tu (.list l.length (l.flatMap f)) c/\(Rows.uptoBulk x.1<=1048576->l.length<=1048576/\∀ z ∈ l,Q z):=by
 rcases vds ht h with ⟨hcs,hx⟩ | ⟨a,len,cap,elems,rest,n,rfl,hcs,hx,_,hl,hm,hlen,hel1,_,_⟩
 . simp at hcs
   subst hcs;exact ⟨[],zk2,fun _=>⟨by simp,by simp⟩⟩
 . simp at hcs
   subst hcs;subst hx;simp only [Okw,DataW.weights,ht,vcm,vbj,vae,decide_eq_true_eq] at hw;obtain ⟨hw1,hw2,_⟩:=hw;rw [vbd,vbd] at hw1
   have hlb:len*k<=17592186044416:=by
    have h1:(elems.length+rest.length)*(8*k)<=reachBytes:=vav (Nat.mul_le_mul_left _ hby) hw1;have h2:elems.length*(8*k)<=(elems.length+rest.length)*(8*k):=Nat.mul_le_mul_right _ (by omega)
    have h3:elems.length*(8*k)=8*(len*k):=by rw [hlen];rw [Nat.mul_left_comm]
    unfold reachBytes at h1;omega
   have key:∀ m,m<=len->∃ (l:List α) (cs:List Value),l.length=m/\cs.length=m*k/\(∀ j u,cs[j]? = some u->W.cell? (a.add j)=some u)/\DVals W Tu (l.flatMap f) cs/\(Rows.uptoBulkAll (elems.map Prod.fst)<=1048576->∀ z ∈ l,Q z):=by
    intro m
    induction m with
    | zero=>intro _;exact ⟨[],[],rfl,by simp,(fun j u hj=>by simp at hj),.nil,(fun _ z hz=>by cases hz)⟩
    | succ m ih=>
      intro hm';obtain ⟨l,cs,h1,h2,h3,h4,h5⟩:=ih (by omega);have he:=hel1 m (by omega);rw [hc] at he
      have hme:m<elems.length:=by omega
      rw [vaj hme] at he;obtain ⟨cs',hc1,hc2⟩:=Option.bind_eq_some_iff.1 he;obtain ⟨_,hcl,hcell⟩:=World.cells?_some hc1;obtain ⟨z,hz,hq⟩:=hel n (by omega) cs' elems[m] hc2 (zut (vcb.2 ⟨_,vah hme,rfl⟩) hw2);refine ⟨l++[z],cs++cs',by simp [h1],by simp [h2,hcl,ved],fun j u hj=>?_,?_,fun hb y hy=>?_⟩
      . rcases vbe j cs.length with hlt | hge
        . rw [vaw hlt] at hj;exact h3 j u hj
        . rw [vbb hge] at hj
          have hr:j - cs.length<k:=by
           rcases vbe (j - cs.length) k with h | h
           . exact h
           . rw [vbi (by omega)] at hj;cases hj
          have:=hcell (j - cs.length) hr;rw [add_add,hj,show m*k+(j - cs.length)=j from by omega] at this;exact this
      . rw [vdh]
        simp only [vbw,List.flatMap_nil,vcf];exact h4.append hz
      . rcases vbp.1 hy with hy | hy
        . exact h5 hb y hy
        . simp at hy
          subst hy;exact hq (vav (bulks.part_le (vcb.2 ⟨_,vah hme,rfl⟩)) hb)
   obtain ⟨l,cs,h1,h2,h3,h4,h5⟩:=key len (vaa _)
   rcases vcn len with h0 | h0
   . subst h0
     exact ⟨[],zk2,fun _=>⟨by simp,by simp⟩⟩
   . have hlen2:=h4.len
     obtain ⟨b,off,spot⟩:=a
     have hpos:0<cs.length:=by rw [h2];exact Nat.mul_pos h0 hk
     have hc0:=h3 0 cs[0] (vaj hpos)
     have hspot:spot=none:=by simpa [Addr.add] using World.cell?_spot hc0
     subst hspot;refine ⟨l,?_,fun hb=>?_⟩
     rotate_left
     . have hb1:=bulks.slice_elems (elems.map Prod.fst) (rest.map Prod.fst)
       have hb2:=bulks.length_le (elems.map Prod.fst);rw [vbd] at hb2;have hb3:Rows.uptoBulk (DataW.slice (elems.map Prod.fst) (rest.map Prod.fst))<=1048576:=hb;exact ⟨by omega,h5 (by omega)⟩
     rw [h1];have hle:len<=len*k:=Nat.le_mul_of_pos_right _ hk;refine z18 (by omega) (by omega) trivial ?_ (fun j u hj=>?_) h4
     . have:=World.block_lt_of_cell? W _ hc0
       simpa [Addr.add] using this
     . have:=h3 j u hj
       rw [add_plain] at this;exact this
section
variable {H:Type} {enc:TypeId × Value->H} {W:World}
theorem zsb {fuel:Nat} {c:Value} {x:DataW H × List MemPlace} (h:DataW.trod enc Tryz.prog W 0 (fun _=>true) true fuel 22 [c]=some x) (hw:Okw 22 x.1):∃ l:List ByteArray,zck W Tu (.list l.length (zal l)) c/\(Rows.uptoBulk x.1<=1048576->l.length<=1048576):=by
 obtain ⟨l,hl,hb⟩:=zkt (α:=ByteArray) Tryz.underlying22 cS (by omega) (by rw [bS];omega) (fun s=>[D.str s]) (fun _=>True) (fun n _ cs y hy _=>by
  obtain ⟨s,rfl,_,hs⟩:=DataW.trod_string Tryz.underlying9 hy
  exact ⟨s,.cons (zd6 hs) .nil,fun _=>trivial⟩) h hw
 rw [zuu] at hl;exact ⟨l,hl,fun h=>(hb h).1⟩
end
end Go.Proofs.YtndkhgakfodldaaGreatDoor
