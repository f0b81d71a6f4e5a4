import Derived.Test.YtndkhgakfodldaaGreatDoorOl
import Derived.Test.YtndkhgakfodldaaGreatDoorRb
set_option maxRecDepth 100000
open Go.Proofs.Tryz
namespace Go.Proofs.YtndkhgakfodldaaGreatDoor
open Go.ChangeShapes Go.WideShapes Go.ChangeAt Go.RowKit Go.Deep
namespace bulks
variable {H:Type}
theorem H8 (d:DataW H):1<=Rows.uptoBulk d:=by
 cases d with
 | lit g=>cases g<;>simp [Rows.uptoBulk]
 | _=>simp [Rows.uptoBulk]
theorem part_le {d:DataW H}:∀ {g:List (DataW H)},d ∈ g->Rows.uptoBulk d<=Rows.uptoBulkAll g
 | x :: r,h=>by
   simp only [Rows.uptoBulkAll]
   rcases kk.1 h with e | e
   . subst e;omega
   . have:=part_le e;omega
theorem length_le:∀ g:List (DataW H),g.length<=Rows.uptoBulkAll g
 | []=>by simp [Rows.uptoBulkAll]
 | x :: r=>by
   have F:=H8 x;have J:=length_le r;simp only [Rows.uptoBulkAll,gY];omega
theorem slice_elems (i a:List (DataW H)):Rows.uptoBulkAll i+1<=Rows.uptoBulk (.slice i a):=by
 simp only [Rows.uptoBulk];omega
end bulks
variable {c:Value} {d:Nat}
theorem Bu {H:Type} {enc:TypeId × Value->H} {M:World} {α:Type} {t e:TypeId} {k:Nat} (ax:prog.underlying t=some (.slice e)) (W:prog.cellsOf e=k) (N:0<k) (R:8*k<=prog.bytesOf e)
 (f:α->List D) (Y:α->Prop) (aY:∀ n,n<d->∀ s a3,DataW.trod enc prog M 0 (fun _=>true) true n e s=some a3->hE e a3.1->∃ aX:α,eu M jo (f aX) s/\(Rows.uptoBulk a3.1<=1048576->Y aX))
 {x:DataW H × List MemPlace} (h:DataW.trod enc prog M 0 (fun _=>true) true d t [c]=some x) (aj:hE t x.1):∃ g:List α,eO M jo (.list g.length (g.flatMap f)) c/\(Rows.uptoBulk x.1<=1048576->g.length<=1048576/\∀ aX ∈ g,Y aX):=by
 rcases uU ax h with ⟨r,S⟩ | ⟨a,b,q,i,rest,n,rfl,r,S,_,X,a1,b1,hel1,_,_⟩
 . simp at r
   subst r;exact ⟨[],jc,fun _=>⟨Ob,Ob⟩⟩
 . simp at r
   subst r;subst S;simp only [hE,DataW.weights,ax,rR,k8,dO,decide_eq_true_eq] at aj;obtain ⟨aE,a6,_⟩:=aj;rw [fM,fM] at aE
   have b8:b*k<=17592186044416:=by
    exact Q3
   have A:∀ m,m<=b->∃ (g:List α) (s:List Value),g.length=m/\s.length=m*k/\(∀ j u,s[j]? = some u->M.cell? (a.add j)=some u)/\eu M jo (g.flatMap f) s/\(Rows.uptoBulkAll (i.map Prod.fst)<=1048576->∀ aX ∈ g,Y aX):=by
    intro m
    induction m with
    | zero=>intro _;exact ⟨[],[],rfl,Ob,(fun j u a2=>by simp at a2),.nil,(fun _ aX b2=>by cases b2)⟩
    | succ m ay=>
      intro o;obtain ⟨g,s,F,J,U,aa,aB⟩:=ay N7;have ar:=hel1 m N7;rw [W] at ar
      have ae:m<i.length:=N7
      rw [ew ae] at ar;obtain ⟨l,aO,bp⟩:=Option.bind_eq_some_iff.1 ar;obtain ⟨_,bP,hcell⟩:=World.cells?_some aO;obtain ⟨aX,b2,b3⟩:=aY n N7 l i[m] bp (w6 (ig.2 ⟨_,eb ae,rfl⟩) a6);refine ⟨g++[aX],s++l,by simp [F],by simp [J,bP,xG],fun j u a2=>?_,?_,fun I a3 a4=>?_⟩
      . exact QI
      . exact SJ
      . rcases jF.1 a4 with a4 | a4
        . exact aB I a3 a4
        . simp at a4
          subst a4;exact b3 (fZ (bulks.part_le (ig.2 ⟨_,eb ae,rfl⟩)) I)
   obtain ⟨g,s,F,J,U,aa,aB⟩:=A b (dA _)
   rcases uS b with ab | ab
   . subst ab
     exact ⟨[],jc,fun _=>⟨Ob,Ob⟩⟩
   . have w:=aa.len
     obtain ⟨p,C,spot⟩:=a
     have y:0<s.length:=by rw [J];exact Nat.mul_pos ab N
     have O:=U 0 s[0] (ew y)
     have v:spot=none:=by simpa [Addr.add] using World.cell?_spot O
     subst v;refine ⟨g,?_,fun I=>?_⟩
     rotate_left
     . have aq:=bulks.slice_elems (i.map Prod.fst) (rest.map Prod.fst)
       have aN:=bulks.length_le (i.map Prod.fst);rw [fM] at aN;have T:Rows.uptoBulk (DataW.slice (i.map Prod.fst) (rest.map Prod.fst))<=1048576:=I;exact ⟨N7,aB N7⟩
     exact Q2
section
variable {H:Type} {enc:TypeId × Value->H} {M:World}
theorem H9 {x:DataW H × List MemPlace} (h:DataW.trod enc prog M 0 (fun _=>true) true d 22 [c]=some x) (aj:hE 22 x.1):∃ g:List ByteArray,eO M jo (.list g.length (eH g)) c/\(Rows.uptoBulk x.1<=1048576->g.length<=1048576):=by
 obtain ⟨g,X,I⟩:=Bu (α:=ByteArray) Tryz.underlying22 cS N7 (by rw [bS];omega) (fun o=>[D.str o]) (fun _=>True) (fun n _ s a3 a4 _=>by
  obtain ⟨o,rfl,_,a8⟩:=DataW.trod_string Tryz.underlying9 a4
  exact ⟨o,.cons (fz a8) .nil,fun _=>trivial⟩) h aj
 rw [H6] at X;exact ⟨g,X,fun h=>(I h).1⟩
end
end Go.Proofs.YtndkhgakfodldaaGreatDoor
