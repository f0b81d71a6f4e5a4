import Derived.Test.YtndkhgakfodldaaGreatDoorStep
import Derived.Test.YtndkhgakfodldaaGreatDoorPj
set_option maxRecDepth 100000
set_option maxHeartbeats 400000
namespace Go.Proofs.YtndkhgakfodldaaGreatDoor
open Go.RowKit
variable {a b c:List Tk} {m:ec} {t:Tk}
theorem Gi (s:ByteArray) (w:World) (a8:s.size<=maxLen) :
 dw 114 #[.string s] w fun e G=>∃ a q,e = .returned (.tuple #[.slice a (jV s).length q,di (kZ s)])/\i8 G a (jV s)/\dm w G:=by
 unfold maxLen at a8
 by_cases b:4096<s.size
 . have aP:Hid (jV s=[]/\kZ s=2):=Gc b
   go_enter Tryz.func114,Tryz.ntmps114;go_wp2_with fail;go_ret2;exact ⟨none,0,PO,PB,Below.refl _ _⟩
 . have ao:Hid (dw 157 #[.string s] w fun e G=>∃ a q,e = .returned (.tuple #[.slice a (jV s).length q,di (kZ s)])/\i8 G a (jV s)/\dm w G):=Jh s w N7
   generalize jV s=d at *;generalize kZ s=n at *;go_enter Tryz.func114,Tryz.ntmps114;go_wp2_with fail;refine ao.mono ?_;rintro e w2 ⟨a,q,rfl,H,I⟩;have aM:Hid (i8 w2 a d):=H;clear H ao;go_wp2_with fail;go_ret2;exact ⟨a,q,rfl,aM,I⟩
def sN:Nat->ByteArray->Nat->Option (List Tk)
 | 0,o,a=>if a<o.size then none else some []
 | f + 1,o,a=>
   if h:a<o.size then
    if lZ o[a] then sN f o (a+Lx.pieceN o a)
    else match ia (o.extract a (a+Lx.pieceN o a)) with
     | none=>none
     | some t=>(sN f o (a+Lx.pieceN o a)).map (t :: ·)
   else some []
theorem AK:∀ (f:Nat) (o:ByteArray) (a:Nat),o.size - a<=f->sN f o a=hJ o a
 | 0,o,a,h=>by rw [AG o a N7];unfold sN;rw [if_neg N7]
 | f+1,o,a,h=>by
   have aA:=Lx.zje o a;have ay:=AK f o (a+Lx.pieceN o a) N7;rw [hJ,sN,ay]
   cases ia (o.extract a (a+Lx.pieceN o a))<;>rfl
theorem iA.of_app (h:iA (a++b)):iA b:=by
 obtain ⟨F,J⟩:=h;rw [k8,dO] at F J;exact ⟨F.2,J.2⟩
theorem iA.head (h:iA (t :: b)):iz t=true/\Tk.okB t=true:=by
 obtain ⟨F,J⟩:=h;rw [rR,dO] at F J;exact ⟨F.1,J.1⟩
theorem iA.of_eq (h:iA a) (e:a=b++c):iA c:=by rw [e] at h;exact h.of_app
theorem wJ:∀ (g:List St),(eE g).length=6*g.length
 | []=>by simp [eE]
 | x :: r=>by
   have:=x.ds_len
   simp [eE,wJ r,this];omega
theorem Gj:D.fines []:=by unfold D.fines;trivial
def ru (l:List Tk):Prop:=iA l/\l.length<=4096
theorem ru.of_eq (h:ru a) (e:a=b++c):ru c:=⟨h.1.of_eq e,by have:=h.2;rw [e,eM] at this;omega⟩
theorem ru.tl (h:ru a) (e:a=t :: c):ru c:=h.of_eq (b:=[t]) e
theorem AL:∀ (g:List ByteArray),D.fines (eH g)
 | []=>Gj
 | x :: r=>by
   show D.fines (.str x :: eH r);simp only [D.fines,D.fine];exact ⟨trivial,AL r⟩
structure wK (m:ec):Prop where
 uses:m.uses.length<=10000
 decls:m.decls.length<=10000
 procs:m.procs.length<=10000
 main:m.main.length<=10000
 fd:D.fines (lb m.decls)
 fp:D.fines (jq m.procs)
 fm:D.fines (eE m.main)
inductive uj:eA->Prop
 | mk {op n:Int} {m nm:ByteArray} {args:List eA} (h1:B6 op=true) (h2:mR (mQ op) m nm=true) (h3:pD (mQ op) n=true) (h4:pE (mQ op) args.length=true) (h5:∀ a ∈ args,uj a):uj (.mk op n m nm args)
theorem AM:∀ (k:Nat) (g:List eA),oH k g=true->hL k g=false->oI k g=true->∀ x ∈ g,uj x
 | 0,g,_,J,_,x,S=>by
   simp [hL] at J;rw [J] at S;cases S
 | k+1,g,F,J,U,x,S=>by
   simp only [oH,e1] at F;simp only [hL,hG] at J;simp only [oI,e1] at U;have E:=F x S;have a6:=U x S
   have a0:hL k x.args=false:=by
    have:=J.2;rw [ma] at this;simpa using this x S
   simp only [dO] at E a6;obtain ⟨T,n,m,s,O⟩:=x;exact .mk E.1 a6.1 a6.2.1 a6.2.2.1 (AM k O E.2 a0 a6.2.2.2)
theorem AN {α:Type} {l:List α} (h:decide (0<l.length)=false):l=[]:=hF (by have:=of_decide_eq_false h;omega)
inductive ql:St->Prop
 | mk {op:Int} {m nm:ByteArray} {args:List eA} {body other:List St} (h1:B7 op=true) (h2:mR (hK op) m nm=true) (h3:pE (hK op) args.length=true) (h4:∀ a ∈ args,uj a) (h5:(hK op).body=true\/body=[]) (h6:(hK op).other=true\/other=[]) (h7:∀ s ∈ body,ql s) (h8:∀ s ∈ other,ql s):ql (.mk op m nm args body other)
theorem wL:∀ (k:Nat) (g:List St),mh k g=true->gx k g=false->lJ k g=true->∀ o ∈ g,ql o
 | 0,g,_,J,_,x,S=>by simp [gx] at J
 | k + 1,g,F,J,U,x,S=>by
   simp only [mh,e1] at F;simp only [gx,hG] at J;simp only [lJ,e1] at U;have E:=F x S;have a6:=U x S;have a0:=J.2;rw [ma] at a0;have a0:=a0 x S;simp only [dO] at E a6;simp only [nE,hG,sX] at a0;obtain ⟨T,m,s,O,ac,Z⟩:=x
   have I:(hK T).body=true\/ac=[]:=by
    have:=a6.2.2.2.1;simp [St.op,St.body] at this;exact this
   have ap:(hK T).other=true\/Z=[]:=by
    have:=a6.2.2.2.2.1;simp [St.op,St.other] at this;exact this
   have b:ac=[]\/gx k ac=false:=by
    rcases a0.2.1 with h | h
    . left
      simp [St.op,St.body] at h;exact AN h.2
    . exact Or.inr h
   have a:Z=[]\/gx k Z=false:=by
    rcases a0.2.2 with h | h
    . left
      exact AN h
    . exact Or.inr h
   refine .mk E.1 a6.1 a6.2.1 (AM 6 O E.2.1 a0.1 a6.2.2.1) I ap ?_ ?_
   . rcases b with h | h
     . rw [h];intro o a8;cases a8
     . exact wL k ac E.2.2.1 h a6.2.2.2.2.2.1
   . rcases a with h | h
     . rw [h];intro o a8;cases a8
     . exact wL k Z E.2.2.2 h a6.2.2.2.2.2.2
structure Gk (m:ec):Prop where
 name:nameOk m.name=true
 uses:∀ u ∈ m.uses,nameOk u=true
 decls:∀ d ∈ m.decls,nameOk d.name=true/\nG d=true/\1<=d.kind/\d.kind<=3
 procs:∀ p ∈ m.procs,nameOk p.name=true/\(∀ n ∈ p.params,nameOk n=true)/\(∀ n ∈ p.locals,nameOk n=true)/\(∀ s ∈ p.body,ql s)
 main:∀ s ∈ m.main,ql s
theorem AO (h:m.err=0):m.kinds=true/\m.many=false/\m.form=true:=by
 unfold ec.err at h
 cases N:m.kinds with
 | false=>rw [N] at h;simp at h
 | true=>
   rw [N] at h
   cases a1:m.many with
   | true=>rw [a1] at h;simp at h
   | false=>
     rw [a1] at h
     cases Y:m.form with
     | false=>rw [Y] at h;simp at h
     | true=>exact ⟨rfl,rfl,rfl⟩
theorem Gl (h:m.err=0):Gk m:=by
 obtain ⟨N,a1,Y⟩:=AO h;unfold ec.kinds at N;unfold ec.many at a1;unfold ec.form at Y;simp only [dO,e1,decide_eq_true_eq] at N Y;simp only [hG] at a1;have a:=a1.2.2.2.2;rw [ma] at a
 have ac:∀ b ∈ m.bodies,∀ o ∈ b,ql o:=fun b I=>wL 6 b (N.2 b I) (by simpa using a b I) (Y.2.2.2.2 b I)
 exact {
  name:=Y.1
  uses:=Y.2.1
  decls:=fun d hd=>⟨(Y.2.2.1 d hd).1,(Y.2.2.1 d hd).2,N.1 d hd⟩
  procs:=fun D aA=>⟨(Y.2.2.2.1 D aA).1,(Y.2.2.2.1 D aA).2.1,(Y.2.2.2.1 D aA).2.2,ac D.body (by unfold ec.bodies;simp;exact Or.inl ⟨D,aA,rfl⟩)⟩
  main:=ac m.main (by unfold ec.bodies;simp) }
theorem iA.append (h:iA a) (k:iA b):iA (a++b):=⟨by rw [k8,h.1,k.1];rfl,by rw [k8,h.2,k.2];rfl⟩
theorem iA.cons (h:iA [t]) (k:iA b):iA (t :: b):=iA.append (a:=[t]) h k
theorem iA.nil:iA []:=⟨rfl,rfl⟩
end Go.Proofs.YtndkhgakfodldaaGreatDoor
