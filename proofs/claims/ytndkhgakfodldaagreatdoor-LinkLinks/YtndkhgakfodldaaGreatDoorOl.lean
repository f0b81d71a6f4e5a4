import Derived.Test.YtndkhgakfodldaaGreatDoorTd
import Derived.Test.YtndkhgakfodldaaGreatDoorRows
import Derived.ProofKit
import Derived.OpenShut
import Derived.Deep.Strs
set_option maxRecDepth 100000
open Go.Proofs.Tryz
open List renaming length → Ln
namespace Go.Proofs.YtndkhgakfodldaaGreatDoor
open Go.ChangeShapes Go.WideShapes Go.ChangeAt Go.RowKit Go.Deep
variable {H:Type} {c:Value} {e:TypeId} {p:Nat}
abbrev od:Nat->Prop:=fun _=>True
def kt (t:TypeId) (d:DataW H):Prop:=(DataW.weights prog t d).all (·<=reachBytes)=true
theorem wv {d:DataW H}:∀ {K:List (DataW H)},d ∈ K->(DataW.weightsAll prog e K).all (·<=reachBytes)=true->kt e d
 | q :: O,a8,h=>by
   simp only [DataW.weightsAll,lL,fs] at h
   rcases lM.1 a8 with rfl | a8
   . exact h.1
   . exact wv a8 h.2
theorem sl {enc:TypeId × Value->H} {M:World} {α:Type} {t:TypeId} {k:Nat} (aj:prog.underlying t=some (.slice e)) (a1:prog.cellsOf e=k) (N:0<k) (a4:8*k<=prog.bytesOf e)
 (f:α->List D) (cr:∀ n,n<p->∀ d o,DataW.trod enc prog M 0 (fun _=>true) true n e d=some o->kt e o.1->∃ z:α,fB M od (f z) d)
 {x:DataW H × List MemPlace} (h:DataW.trod enc prog M 0 (fun _=>true) true p t [c]=some x) (aq:kt t x.1):∃ K:List α,fT M od (.list (Ln K) (K.flatMap f)) c:=by
 rcases t1 aj h with ⟨R,Q⟩ | ⟨a,g,I,elems,rest,n,rfl,R,Q,_,a2,a8,aT,hel1,_,_⟩
 . simp at R
   subst R;exact ⟨[],jW⟩
 . simp at R
   subst R;subst Q;simp only [kt,DataW.weights,aj,oz,lL,fs,decide_eq_true_eq] at aq;obtain ⟨b8,ae,_⟩:=aq;rw [qu,qu] at b8
   have bz:g*k<=17592186044416:=by
    have G:(Ln elems+Ln rest)*(8*k)<=reachBytes:=iC (Nat.mul_le_mul_left _ a4) b8;have J:Ln elems*(8*k)<=(Ln elems+Ln rest)*(8*k):=wU _ (by omega)
    have S:Ln elems*(8*k)=8*(g*k):=by rw [aT];rw [Nat.mul_left_comm]
    unfold reachBytes at G;omega
   have b:∀ m,m<=g->∃ (K:List α) (d:List Value),Ln K=m/\Ln d=m*k/\(∀ j u,d[j]? = some u->M.cell? (a.add j)=some u)/\fB M od (K.flatMap f) d:=by
    intro m
    induction m with
    | zero=>intro _;exact ⟨[],[],rfl,by simp,(fun j u ac=>by simp at ac),.nil⟩
    | succ m aH=>
      intro hm';obtain ⟨K,d,G,J,S,a6⟩:=aH (by omega);have ah:=hel1 m (by omega);rw [a1] at ah
      have P:m<Ln elems:=by omega
      rw [gb P] at ah;obtain ⟨l,aM,b1⟩:=Option.bind_eq_some_iff.1 ah;obtain ⟨_,b0,hcell⟩:=World.cells?_some aM;obtain ⟨z,aS⟩:=cr n (by omega) l elems[m] b1 (wv (po.2 ⟨_,fO P,rfl⟩) ae);refine ⟨K++[z],d++l,by simp [G],by simp [J,b0,Nat.succ_mul],fun j u ac=>?_,?_⟩
      . rcases iS j (Ln d) with a0 | L
        . rw [mR a0] at ac;exact S j u ac
        . rw [om L] at ac
          have W:j - Ln d<k:=by
           rcases iS (j - Ln d) k with h | h
           . exact h
           . rw [pm (by omega)] at ac;cases ac
          have:=hcell (j - Ln d) W;rw [add_add,ac,show m*k+(j - Ln d)=j from by omega] at this;exact this
      . rw [AA]
        simp only [lh,List.flatMap_nil,ot];exact a6.append aS
   obtain ⟨K,d,G,J,S,a6⟩:=b g (eD _)
   rcases tV g with a3 | a3
   . subst a3
     exact ⟨[],jW⟩
   . have r:=a6.len
     obtain ⟨V,C,spot⟩:=a
     have i:0<Ln d:=by rw [J];exact Nat.mul_pos a3 N
     have ao:=S 0 d[0] (gb i)
     have q:spot=none:=by simpa [Addr.add] using World.cell?_spot ao
     subst q;refine ⟨K,?_⟩;rw [G];have an:g<=g*k:=Nat.le_mul_of_pos_right _ N;refine GL (by omega) (by omega) trivial ?_ (fun j u ac=>?_) a6
     . have:=World.block_lt_of_cell? M _ ao
       simpa [Addr.add] using this
     . have:=S j u ac
       rw [add_plain] at this;exact this
theorem FJ (l:List ByteArray):l.flatMap (fun s=>[D.str s])=fj l:=by
 induction l with
 | nil=>rfl
 | cons q O aH=>simp only [lh,aH,fj,oy];rfl
theorem cI:prog.cellsOf 3=1:=by kernel_rfl
theorem cS:prog.cellsOf 9=1:=by kernel_rfl
theorem FK:prog.cellsOf 22=1:=by kernel_rfl
theorem bS:prog.bytesOf 9=16:=by kernel_rfl
section
variable {H:Type} {enc:TypeId × Value->H} {M:World}
theorem FL {x:DataW H × List MemPlace} (h:DataW.trod enc prog M 0 (fun _=>true) true p 22 [c]=some x) (aq:kt 22 x.1):∃ K:List ByteArray,fT M od (.list (Ln K) (fj K)) c:=by
 obtain ⟨K,a2⟩:=sl (α:=ByteArray) Tryz.underlying22 cS (by omega) (by rw [bS];omega) (fun s=>[D.str s]) (fun n _ d o z _=>by
  obtain ⟨s,rfl,_,Z⟩:=DataW.trod_string Tryz.underlying9 z
  exact ⟨s,.cons (gy Z) .nil⟩) h aq
 rw [FJ] at a2;exact ⟨K,a2⟩
end
end Go.Proofs.YtndkhgakfodldaaGreatDoor
