import Derived.Test.YtndkhgakfodldaaGreatDoorTd
import Derived.Test.YtndkhgakfodldaaGreatDoorRows
import Derived.ProofKit
import Derived.OpenShut
import Derived.Deep.Strs
set_option maxRecDepth 100000
open Go.Proofs.Tryz
namespace Go.Proofs.YtndkhgakfodldaaGreatDoor
open Go.ChangeShapes Go.WideShapes Go.ChangeAt Go.RowKit Go.Deep
variable {H:Type} {e:TypeId}
abbrev jo:Nat->Prop:=fun _=>True
def hE (t:TypeId) (d:DataW H):Prop:=(DataW.weights prog t d).all (·<=reachBytes)=true
theorem w6 {d:DataW H}:∀ {g:List (DataW H)},d ∈ g->(DataW.weightsAll prog e g).all (·<=reachBytes)=true->hE e d
 | x :: r,a1,h=>by
   simp only [DataW.weightsAll,k8,dO] at h
   rcases kk.1 a1 with rfl | a1
   . exact h.1
   . exact w6 a1 h.2
theorem uD {enc:TypeId × Value->H} {M:World} {α:Type} {t:TypeId} {k:Nat} (ax:prog.underlying t=some (.slice e)) (W:prog.cellsOf e=k) (N:0<k) (R:8*k<=prog.bytesOf e)
 (f:α->List D) {d:Nat} (aY:∀ n,n<d->∀ s a3,DataW.trod enc prog M 0 (fun _=>true) true n e s=some a3->hE e a3.1->∃ aX:α,eu M jo (f aX) s)
 {c:Value} {x:DataW H × List MemPlace} (h:DataW.trod enc prog M 0 (fun _=>true) true d t [c]=some x) (aj:hE t x.1):∃ g:List α,eO M jo (.list g.length (g.flatMap f)) c:=by
 rcases uU ax h with ⟨r,S⟩ | ⟨a,b,q,i,rest,n,rfl,r,S,_,X,a1,b1,hel1,_,_⟩
 . simp at r
   subst r;exact ⟨[],jc⟩
 . simp at r
   subst r;subst S;simp only [hE,DataW.weights,ax,rR,k8,dO,decide_eq_true_eq] at aj;obtain ⟨aE,a6,_⟩:=aj;rw [fM,fM] at aE
   have b8:b*k<=17592186044416:=by
    exact Q3
   have A:∀ m,m<=b->∃ (g:List α) (s:List Value),g.length=m/\s.length=m*k/\(∀ j u,s[j]? = some u->M.cell? (a.add j)=some u)/\eu M jo (g.flatMap f) s:=by
    intro m
    induction m with
    | zero=>intro _;exact ⟨[],[],rfl,Ob,(fun j u a2=>by simp at a2),.nil⟩
    | succ m ay=>
      intro o;obtain ⟨g,s,F,J,U,aa⟩:=ay N7;have ar:=hel1 m N7;rw [W] at ar
      have ae:m<i.length:=N7
      rw [ew ae] at ar;obtain ⟨l,aO,bp⟩:=Option.bind_eq_some_iff.1 ar;obtain ⟨_,bP,hcell⟩:=World.cells?_some aO;obtain ⟨aX,b2⟩:=aY n N7 l i[m] bp (w6 (ig.2 ⟨_,eb ae,rfl⟩) a6);refine ⟨g++[aX],s++l,by simp [F],by simp [J,bP,xG],fun j u a2=>?_,?_⟩
      . exact QI
      . exact SJ
   obtain ⟨g,s,F,J,U,aa⟩:=A b (dA _)
   rcases uS b with ab | ab
   . subst ab
     exact ⟨[],jc⟩
   . have w:=aa.len
     obtain ⟨p,C,spot⟩:=a
     have y:0<s.length:=by rw [J];exact Nat.mul_pos ab N
     have O:=U 0 s[0] (ew y)
     have v:spot=none:=by simpa [Addr.add] using World.cell?_spot O
     subst v;refine ⟨g,?_⟩;exact Q2
theorem H6 (l:List ByteArray):l.flatMap (fun o=>[D.str o])=eH l:=by
 induction l with
 | nil=>rfl
 | cons x r ay=>simp only [ki,ay,eH,md];rfl
theorem cI:prog.cellsOf 3=1:=by kernel_rfl
theorem cS:prog.cellsOf 9=1:=by kernel_rfl
theorem H7:prog.cellsOf 22=1:=by kernel_rfl
theorem bS:prog.bytesOf 9=16:=by kernel_rfl
section
variable {H:Type} {enc:TypeId × Value->H} {M:World}
end
end Go.Proofs.YtndkhgakfodldaaGreatDoor
