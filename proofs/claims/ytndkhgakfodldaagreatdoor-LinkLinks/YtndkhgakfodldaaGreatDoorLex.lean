import Derived.Test.YtndkhgakfodldaaGreatDoorStep
import Derived.Test.YtndkhgakfodldaaGreatDoorPj
namespace Go.Proofs.YtndkhgakfodldaaGreatDoor
set_option maxRecDepth 100000
set_option maxHeartbeats 400000
open Go.RowKit
theorem z29 (s:ByteArray) (w:World) (hs:s.size<=maxLen) :
 qc 114 #[.string s] w fun e w'=>∃ a cap,e = .returned (.tuple #[.slice a (lexT s).length cap,qi (lexE s)])/\zcm w' a (lexT s)/\qb w w':=by
 unfold maxLen at hs
 by_cases Jg:4096<s.size
 . have HE:Hid (lexT s=[]/\lexE s=2):=zz1 Jg
   go_enter Tryz.func114,Tryz.ntmps114;go_wp2_with fail;go_ret2;exact ⟨none,0,by rw [HE.out.1,HE.out.2];rfl,by rw [HE.out.1];exact Or.inl rfl,Below.refl _ _⟩
 . have HC:Hid (qc 157 #[.string s] w fun e w'=>∃ a cap,e = .returned (.tuple #[.slice a (lexT s).length cap,qi (lexE s)])/\zcm w' a (lexT s)/\qb w w'):=zu1 s w (by omega)
   generalize lexT s=ts at *;generalize lexE s=n at *;go_enter Tryz.func114,Tryz.ntmps114;go_wp2_with fail;refine HC.out.mono ?_;rintro e w2 ⟨a,cap,rfl,hT,hb⟩;have HT:Hid (zcm w2 a ts):=hT;clear hT HC;go_wp2_with fail;go_ret2;exact ⟨a,cap,rfl,HT.out,hb⟩
def z5k:Nat->ByteArray->Nat->Option (List Tk)
 | 0,s,a=>if a<s.size then none else some []
 | f + 1,s,a=>
   if h:a<s.size then
    if zff s[a] then z5k f s (a+Lx.pieceN s a)
    else match zdu (s.extract a (a+Lx.pieceN s a)) with
     | none=>none
     | some t=>(z5k f s (a+Lx.pieceN s a)).map (t :: ·)
   else some []
theorem zwo:∀ (f:Nat) (s:ByteArray) (a:Nat),s.size - a<=f->z5k f s a=zdo s a
 | 0,s,a,h=>by rw [zo9 s a (by omega)];unfold z5k;rw [if_neg (by omega)]
 | f+1,s,a,h=>by
   have hp:=Lx.zh2 s a;have ih:=zwo f s (a+Lx.pieceN s a) (by omega);rw [zdo,z5k,ih]
   cases zdu (s.extract a (a+Lx.pieceN s a))<;>rfl
def kTk (t:ByteArray):Tk:=⟨if Lx.zbt t.data.toList then 1 else 3,0,t⟩
def wTk (t:ByteArray):Tk:=⟨1,0,t⟩
def nTk (n:Int):Tk:=⟨2,n,⟨#[]⟩⟩
theorem zd7.of_app {a b:List Tk} (h:zd7 (a++b)):zd7 b:=by
 obtain ⟨h1,h2⟩:=h;rw [vbo,vab] at h1 h2;exact ⟨h1.2,h2.2⟩
theorem zd7.head {t:Tk} {b:List Tk} (h:zd7 (t :: b)):zd6 t=true/\Tk.okB t=true:=by
 obtain ⟨h1,h2⟩:=h;rw [vcy,vab] at h1 h2;exact ⟨h1.1,h2.1⟩
theorem zd7.of_eq {a b c:List Tk} (h:zd7 a) (e:a=b++c):zd7 c:=by rw [e] at h;exact h.of_app
theorem toList_inj {s t:ByteArray} (h:s.toList=t.toList):s=t:=by
 rw [vbb,vbb] at h;exact vem (Array.ext' h)
def z49 (m n:ByteArray):List Tk:=if m.size=0 then [wTk n] else [wTk m,kTk z5d,wTk n]
def z9d (op:Int):Tk:=kTk (opTexts.getD (op - 7).toNat ⟨#[]⟩)
def zs1:List (List Tk)->List Tk
 | []=>[]
 | [x]=>x
 | x :: y :: r=>x++kTk z65 :: zs1 (y :: r)
def z7h (op n:Int) (m nm:ByteArray) (xs:List (List Tk)):List Tk:=
 if op=1 then [nTk n] else if op=2 then [kTk tIn] else if op=3 then z49 m nm
 else if op=4 then z49 m nm++kTk tLs :: (xs.getD 0 []++[kTk tRs])
 else if op=5 then z49 m nm++kTk tLp :: (zs1 xs++[kTk tRp])
 else if op=6 then kTk z6e :: xs.getD 0 []
 else kTk tLp :: (xs.getD 0 []++z9d op :: (xs.getD 1 []++[kTk tRp]))
mutual
def tE:Ex->List Tk
 | .mk op n m nm args=>z7h op n m nm (tEs args)
def tEs:List Ex->List (List Tk)
 | []=>[]
 | x :: r=>tE x :: tEs r
end
theorem zni:∀ (l:List St),(zby l).length=6*l.length
 | []=>by simp [zby]
 | x :: r=>by
   have:=x.ds_len
   simp [zby,zni r,this];omega
theorem zwp:D.fines []:=by unfold D.fines;trivial
def z5a (l:List Tk):Prop:=zd7 l/\l.length<=4096
theorem z5a.of_eq {a b c:List Tk} (h:z5a a) (e:a=b++c):z5a c:=⟨h.1.of_eq e,by have:=h.2;rw [e,vak] at this;omega⟩
theorem z5a.tl {a c:List Tk} {t:Tk} (h:z5a a) (e:a=t :: c):z5a c:=h.of_eq (b:=[t]) e
def z7i (op:Int) (m nm:ByteArray) (xs:List (List Tk)):List Tk:=
 if op=1 then z49 m nm++kTk tEq :: xs.getD 0 []
 else if op=2 then z49 m nm++kTk tLs :: (xs.getD 0 []++kTk tRs :: kTk tEq :: xs.getD 1 [])
 else if op=3 then z49 m nm++kTk tLp :: (zs1 xs++[kTk tRp])
 else if op=6 then kTk ze9 :: xs.getD 0 [] else kTk z2o :: xs.getD 0 []
def brT (x:List Tk):List Tk:=kTk tLb :: (x++[kTk tRb])
def z7j (op:Int) (m nm:ByteArray) (xs:List (List Tk)) (b o:List Tk) (k:Nat):List Tk:=
 if op=4 then kTk tIf :: (xs.getD 0 []++(brT b++(if k=0 then [] else kTk zrq :: brT o)))
 else if op=5 then kTk zgm :: (xs.getD 0 []++brT b)
 else z7i op m nm xs++[kTk zrr]
mutual
def tS:St->List Tk
 | .mk op m nm args body other=>z7j op m nm (tEs args) (tSs body) (tSs other) other.length
def tSs:List St->List Tk
 | []=>[]
 | s :: r=>tS s++tSs r
end
def z84 (b:Bool):List Tk:=if b then [kTk zrp] else []
def tD (d:De):List Tk:=z84 d.pub++(if d.kind=1 then [kTk ztn,wTk d.name,kTk tEq,nTk d.n,kTk zrr] else if d.kind=2 then [kTk z64,wTk d.name,kTk zrr] else [kTk zto,wTk d.name,kTk tLs,nTk d.n,kTk tRs,kTk zrr])
def z5l (ps:List ByteArray):List Tk:=zs1 (ps.map (fun n=>[wTk n]))
def z85 (t:ByteArray) (l:List ByteArray):List Tk:=l.flatMap (fun n=>[kTk t,wTk n,kTk zrr])
def tP (p:Pr):List Tk:=z84 p.pub++kTk z6d :: wTk p.name :: kTk tLp :: (z5l p.params++kTk tRp :: (z85 z2n p.locals++brT (tSs p.body)))
theorem zpb:∀ (l:List ByteArray),D.fines (zaw l)
 | []=>zwp
 | x :: r=>by
   show D.fines (.str x :: zaw r);simp only [D.fines,D.fine];exact ⟨trivial,zpb r⟩
def tM (m:Mo):List Tk:=kTk zn1 :: wTk m.name :: kTk tLb :: (z85 zvw m.uses++(m.decls.flatMap tD++(m.procs.flatMap tP++kTk z06 :: (brT (tSs m.main)++[kTk tRb]))))
structure Fine (m:Mo):Prop where
 uses:m.uses.length<=10000
 decls:m.decls.length<=10000
 procs:m.procs.length<=10000
 main:m.main.length<=10000
 fd:D.fines (ztj m.decls)
 fp:D.fines (znt m.procs)
 fm:D.fines (zby m.main)
inductive exOk:Ex->Prop
 | mk {op n:Int} {m nm:ByteArray} {args:List Ex} (h1:exB op=true) (h2:zco (exS op) m nm=true) (h3:nOk (exS op) n=true) (h4:za9 (exS op) args.length=true) (h5:∀ a ∈ args,exOk a):exOk (.mk op n m nm args)
theorem z5m:∀ (k:Nat) (l:List Ex),zba k l=true->zam k l=false->zbh k l=true->∀ x ∈ l,exOk x
 | 0,l,_,h2,_,x,hx=>by
   simp [zam] at h2;rw [h2] at hx;cases hx
 | k+1,l,h1,h2,h3,x,hx=>by
   simp only [zba,var] at h1;simp only [zam,vas] at h2;simp only [zbh,var] at h3;have a1:=h1 x hx;have a3:=h3 x hx
   have a2:zam k x.args=false:=by
    have:=h2.2;rw [vbz] at this;simpa using this x hx
   simp only [vab] at a1 a3;obtain ⟨op,n,m,nm,args⟩:=x;exact .mk a1.1 a3.1 a3.2.1 a3.2.2.1 (z5m k args a1.2 a2 a3.2.2.2)
theorem zwq {α:Type} {l:List α} (h:decide (0<l.length)=false):l=[]:=vam (by have:=of_decide_eq_false h;omega)
inductive stOk:St->Prop
 | mk {op:Int} {m nm:ByteArray} {args:List Ex} {body other:List St} (h1:stB op=true) (h2:zco (stS op) m nm=true) (h3:za9 (stS op) args.length=true) (h4:∀ a ∈ args,exOk a) (h5:(stS op).body=true\/body=[]) (h6:(stS op).other=true\/other=[]) (h7:∀ s ∈ body,stOk s) (h8:∀ s ∈ other,stOk s):stOk (.mk op m nm args body other)
theorem z3a:∀ (k:Nat) (l:List St),zaq k l=true->zah k l=false->zar k l=true->∀ s ∈ l,stOk s
 | 0,l,_,h2,_,x,hx=>by simp [zah] at h2
 | k + 1,l,h1,h2,h3,x,hx=>by
   simp only [zaq,var] at h1;simp only [zah,vas] at h2;simp only [zar,var] at h3;have a1:=h1 x hx;have a3:=h3 x hx;have a2:=h2.2;rw [vbz] at a2;have a2:=a2 x hx;simp only [vab] at a1 a3;simp only [vcs,vas,vcx] at a2;obtain ⟨op,m,nm,args,body,other⟩:=x
   have hb:(stS op).body=true\/body=[]:=by
    have:=a3.2.2.2.1;simp [St.op,St.body] at this;exact this
   have ho:(stS op).other=true\/other=[]:=by
    have:=a3.2.2.2.2.1;simp [St.op,St.other] at this;exact this
   have QK:body=[]\/zah k body=false:=by
    rcases a2.2.1 with h | h
    . left
      simp [St.op,St.body] at h;exact zwq h.2
    . exact Or.inr h
   have Qa:other=[]\/zah k other=false:=by
    rcases a2.2.2 with h | h
    . left
      exact zwq h
    . exact Or.inr h
   refine .mk a1.1 a3.1 a3.2.1 (z5m 6 args a1.2.1 a2.1 a3.2.2.1) hb ho ?_ ?_
   . rcases QK with h | h
     . rw [h];intro s hs;cases hs
     . exact z3a k body a1.2.2.1 h a3.2.2.2.2.2.1
   . rcases Qa with h | h
     . rw [h];intro s hs;cases hs
     . exact z3a k other a1.2.2.2 h a3.2.2.2.2.2.2
structure moOk (m:Mo):Prop where
 name:nameOk m.name=true
 uses:∀ u ∈ m.uses,nameOk u=true
 decls:∀ d ∈ m.decls,nameOk d.name=true/\zds d=true/\1<=d.kind/\d.kind<=3
 procs:∀ p ∈ m.procs,nameOk p.name=true/\(∀ n ∈ p.params,nameOk n=true)/\(∀ n ∈ p.locals,nameOk n=true)/\(∀ s ∈ p.body,stOk s)
 main:∀ s ∈ m.main,stOk s
theorem zs2 {m:Mo} (h:m.err=0):m.kinds=true/\m.many=false/\m.form=true:=by
 unfold Mo.err at h
 cases hk:m.kinds with
 | false=>rw [hk] at h;simp at h
 | true=>
   rw [hk] at h
   cases hm:m.many with
   | true=>rw [hm] at h;simp at h
   | false=>
     rw [hm] at h
     cases hf:m.form with
     | false=>rw [hf] at h;simp at h
     | true=>exact ⟨rfl,rfl,rfl⟩
theorem z7k {m:Mo} (h:m.err=0):moOk m:=by
 obtain ⟨hk,hm,hf⟩:=zs2 h;unfold Mo.kinds at hk;unfold Mo.many at hm;unfold Mo.form at hf;simp only [vab,var,decide_eq_true_eq] at hk hf;simp only [vas] at hm;have Od:=hm.2.2.2.2;rw [vbz] at Od
 have body:∀ b ∈ m.bodies,∀ s ∈ b,stOk s:=fun b hb=>z3a 6 b (hk.2 b hb) (by simpa using Od b hb) (hf.2.2.2.2 b hb)
 exact {
  name:=hf.1
  uses:=hf.2.1
  decls:=fun d hd=>⟨(hf.2.2.1 d hd).1,(hf.2.2.1 d hd).2,hk.1 d hd⟩
  procs:=fun p hp=>⟨(hf.2.2.2.1 p hp).1,(hf.2.2.2.1 p hp).2.1,(hf.2.2.2.1 p hp).2.2,body p.body (by unfold Mo.bodies;simp;exact Or.inl ⟨p,hp,rfl⟩)⟩
  main:=body m.main (by unfold Mo.bodies;simp) }
theorem zd7.append {a b:List Tk} (h:zd7 a) (k:zd7 b):zd7 (a++b):=⟨by rw [vbo,h.1,k.1];rfl,by rw [vbo,h.2,k.2];rfl⟩
theorem zd7.cons {t:Tk} {b:List Tk} (h:zd7 [t]) (k:zd7 b):zd7 (t :: b):=zd7.append (a:=[t]) h k
theorem zd7.nil:zd7 []:=⟨rfl,rfl⟩
end Go.Proofs.YtndkhgakfodldaaGreatDoor
