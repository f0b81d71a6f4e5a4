import Derived.Test.YtndkhgakfodldaaGreatDoorYa
import Derived.Test.YtndkhgakfodldaaGreatDoorMxPure
set_option maxRecDepth 100000
set_option maxHeartbeats 3200000
set_option linter.unusedSimpArgs false
set_option linter.unusedVariables false
namespace Go.Proofs.YtndkhgakfodldaaGreatDoor
open Go.RowKit
variable {l:List Int} {q:Nat} {t:Sw} {x:Int}
abbrev Ins:=Mx.Mc.Ins
abbrev i2:=Mx.Mc.St
def jR (C:List Ins) (mt:Int):Nat->i2->Mx.Mc.Res Unit
 | 0,s=>.ok () s
 | n+1,s=>(Mx.Mc.core C mt s).bind fun _ s=>jR C mt n s
theorem v8 (C:List Ins) (mt:Int):∀ (n m:Nat) (s:i2),jR C mt (n+m) s=(jR C mt n s).bind fun _ s=>jR C mt m s
 | 0,m,s=>by rw [fY];rfl
 | n+1,m,s=>by
   rw [show n+1+m=(n+m)+1 by omega];show (Mx.Mc.core C mt s).bind _=((Mx.Mc.core C mt s).bind _).bind _
   cases Mx.Mc.core C mt s with
   | stop t=>rfl
   | ok u t=>exact v8 C mt n m t
theorem wa {C:List Ins} {mt:Int} {s t:i2} {u:Unit} (h:Mx.Mc.core C mt s = .ok u t):t.steps=s.steps+1:=by
 have:=(Mx.Mc.core_steps C mt s).1;rw [h] at this;exact this
theorem zo (c:Mx.Mc.Cfg):∀ (n f:Nat) (s:i2),s.steps+n<=c.ms->Mx.Mc.run c (n+f) s=(match jR c.code c.mt n s with
 | .stop t=>t
 | .ok _ t=>Mx.Mc.run c f t)
 | 0,f,s,_=>by rw [fY];rfl
 | n+1,f,s,h=>by
   rw [show n+1+f=(n+f)+1 by omega,Mx.Mc.run_succ];unfold jR Mx.Mc.step;rw [if_neg N7]
   cases e:Mx.Mc.core c.code c.mt s with
   | stop t=>rfl
   | ok u t=>exact zo c n f t (by have:=wa e;omega)
def em (aE:Nat) (G:List Int) (gs:List (List Int × Int)) (lo:List Int) (bk:Int) (s:Sw) (q:Int):i2:=⟨aE,G,gs,lo,bk,s.data,s.inp,s.out,s.ticks,q,0⟩
def n6 (e:Int) (t:Sw) (a9:i2):Prop:=a9.en=e/\a9.out=t.out/\a9.data=t.data/\a9.ticks=t.ticks
structure g8 (lim:Nat) (s t:Sw):Prop where
 dl:t.data.length=s.data.length
 cl:t.calls=s.calls
 tk:s.ticks<=t.ticks
 lm:t.ticks<=lim
theorem g8.refl {s:Sw} (h:s.ticks<=q):g8 q s s:=⟨rfl,rfl,dA _,h⟩
theorem g8.trans {a b c:Sw} (h:g8 q a b) (k:g8 q b c):g8 q a c:=⟨k.dl.trans h.dl,k.cl.trans h.cl,fZ h.tk k.tk,k.lm⟩
def ez {α:Type} (C:List Ins) (q:Nat) (S:i2) (b:Nat) (s:Sw) (r:Rr α) (T:α->Sw->Int->i2):Prop:=
 ∃ m:Nat,m+2048*s.ticks<=b+2048*r.st.ticks/\match r with
   | .ok a t=>jR C q m S = .ok () (T a t (S.steps+m))/\g8 q s t
   | .stop e t=>∃ a9,jR C q m S = .stop a9/\n6 e t a9
section
variable {α β:Type} {C:List Ins} {q:Nat} {S c:i2} {b b':Nat} {s:Sw} {r:Rr α} {T:α->Sw->Int->i2} {T':β->Sw->Int->i2} {f:α->Sw->Rr β}
theorem ez.bind (h:ez C q S b s r T) (H:∀ a t p,(T a t p).steps=p) (Y:∀ a t p,r = .ok a t->g8 q s t->ez C q (T a t p) b' t (f a t) T'):ez C q S (b+b') s (r.bind f) T':=by
 obtain ⟨m,a1,Q⟩:=h
 cases r with
 | stop e t=>
   obtain ⟨a9,F,J⟩:=Q;exact ⟨m,by simp only [Rr.bind,Rr.st] at a1 ⊢;omega,a9,F,J⟩
 | ok a t=>
   obtain ⟨F,N⟩:=Q;obtain ⟨j,o,a7⟩:=Y a t (S.steps+m) rfl N;refine ⟨m+j,by simp only [Rr.bind,Rr.st] at a1 o ⊢;omega,?_⟩
   have e:jR C q (m+j) S=jR C q j (T a t (S.steps+m)):=by rw [v8,F];rfl
   simp only [Rr.bind,e]
   cases z:f a t with
   | ok O D=>
     rw [z] at a7;obtain ⟨U,aa⟩:=a7;rw [H] at U;exact ⟨by rw [U];congr 2;omega,N.trans aa⟩
   | stop a0 D=>
     rw [z] at a7;exact a7
theorem ez.ok {a:α} (ax:s.ticks<=q) (aE:S=T a s S.steps):ez C q S 0 s (.ok a s) T:=
 ⟨0,by simp [Rr.st],by show Mx.Mc.Res.ok () S=_;rw [← (by simp:S.steps=S.steps+((0:Nat):Int)),← aE],g8.refl ax⟩
theorem ez.step (W:Mx.Mc.core C q S = .ok () c) (h:ez C q c b s r T):ez C q S (b+1) s r T:=by
 obtain ⟨m,a1,Q⟩:=h;have a8:=wa W
 have e:jR C q (m+1) S=jR C q m c:=by
  show (Mx.Mc.core C q S).bind _=_
  rw [W];rfl
 refine ⟨m+1,N7,?_⟩;rw [e]
 cases r with
 | ok a t=>
   simp only at Q ⊢;rw [a8] at Q;exact ⟨by rw [Q.1];congr 2;omega,Q.2⟩
 | stop e t=>exact Q
theorem ez.halt {e:Int} {a9:i2} (W:Mx.Mc.core C q S = .stop a9) (b3:n6 e t a9) (ax:s.ticks<=t.ticks):ez C q S 1 s (.stop e t:Rr α) T:=
 ⟨1,by simp only [Rr.st];omega,a9,by show (Mx.Mc.core C q S).bind _=_;rw [W];rfl,b3⟩
theorem ez.mono (h:ez C q S b s r T) (I:b<=b'):ez C q S b' s r T:=by
 obtain ⟨m,a1,Q⟩:=h;exact ⟨m,N7,Q⟩
theorem ez.step1 {a:α} (W:Mx.Mc.core C q S = .ok () (T a t (S.steps+1))) (N:g8 q s t):ez C q S 1 s (.ok a t) T:=
 ⟨1,by simp only [Rr.st];have:=N.tk;omega,by show (Mx.Mc.core C q S).bind _=_;rw [W];rfl,N⟩
theorem ez.cong {O:α->Sw->Int->i2} (h:ez C q S b s r T) (H:∀ a t p,r = .ok a t->O a t p=T a t p):ez C q S b s r O:=by
 obtain ⟨m,a1,Q⟩:=h;refine ⟨m,a1,?_⟩
 cases r with
 | ok a t=>exact ⟨by rw [H a t _ rfl];exact Q.1,Q.2⟩
 | stop e t=>exact Q
end
section
variable {C:List Ins} {mt:Int} {p:Nat} {G:List Int} {gs:List (List Int × Int)} {lo:List Int} {bk:Int} {s:Sw} {q:Int} {a b v:Int}
theorem hH {i:Ins} (h:C[p]? = some i):Mx.Mc.core C mt (em p G gs lo bk s q)=Mx.Mc.doI mt i (em (p+1) G gs lo bk s (q+1)):=by
 have X:p<C.length:=(pu.1 h).1;unfold Mx.Mc.core;rw [if_pos (by show (0:Int)<=(p:Int)/\(p:Int)<C.length;omega)]
 have:C.getD (em p G gs lo bk s q).pc.toNat ⟨0,0,0⟩=i:=by
  show C.getD (p:Int).toNat _=_
  rw [ir,fV,h];rfl
 rw [this]
 rfl
theorem n7 (n:Int) (h:G.length<2048):Mx.Mc.push n (em p G gs lo bk s q) = .ok () (em p (G++[n]) gs lo bk s q):=by
 unfold Mx.Mc.push;rw [if_pos (by exact h)]
 rfl
theorem kV (n:Int):Mx.Mc.pop (em p (G++[n]) gs lo bk s q) = .ok n (em p G gs lo bk s q):=by
 unfold Mx.Mc.pop;rw [if_pos (by show 0<(G++[n]).length;simp)];show Mx.Mc.Res.ok ((G++[n]).getD ((G++[n]).length - 1) 0) (em p ((G++[n]).take ((G++[n]).length - 1)) gs lo bk s q)=_;simp
theorem wb (ab:0<=a) (F:a<l.length):Mx.Mc.inB l a=true:=by
 unfold Mx.Mc.inB;rw [decide_eq_true ab,decide_eq_true F];rfl
theorem we (ab:0<=a) (F:a<l.length) (S:i2):Mx.Mc.getL l a S = .ok (l.getD a.toNat 0) S:=by
 unfold Mx.Mc.getL;rw [if_pos (wb ab F)]
theorem tO (h:C[p]? = some ⟨1,a,b⟩) (a8:G.length<2048):Mx.Mc.core C mt (em p G gs lo bk s q) = .ok () (em (p+1) (G++[a]) gs lo bk s (q+1)):=by
 rw [hH h];exact n7 a a8
theorem Eu (h:C[p]? = some ⟨2,a,b⟩) (a8:G.length<2048) (ab:0<=a) (F:a<lo.length):Mx.Mc.core C mt (em p G gs lo bk s q) = .ok () (em (p+1) (G++[lo.getD a.toNat 0]) gs lo bk s (q+1)):=by
 rw [hH h];show (Mx.Mc.getL lo a _).bind _=_;rw [we ab F];exact n7 _ a8
theorem Ev (h:C[p]? = some ⟨3,a,b⟩) (ab:0<=a) (F:a<lo.length):Mx.Mc.core C mt (em p (G++[v]) gs lo bk s q) = .ok () (em (p+1) G gs (lo.set a.toNat v) bk s (q+1)):=by
 rw [hH h];show (Mx.Mc.pop _).bind _=_;rw [kV];show Mx.Mc.putLo a v _=_;unfold Mx.Mc.putLo;exact if_pos (show Mx.Mc.inB lo a=true from wb ab F)
theorem Ew (h:C[p]? = some ⟨4,a,b⟩) (a8:G.length<2048) (ab:0<=a) (F:a<s.data.length):Mx.Mc.core C mt (em p G gs lo bk s q) = .ok () (em (p+1) (G++[s.data.getD a.toNat 0]) gs lo bk s (q+1)):=by
 rw [hH h];show (Mx.Mc.getL s.data a _).bind _=_;rw [we ab F];exact n7 _ a8
theorem zq (ab:0<=a) (F:a<s.data.length):Mx.Mc.putDa a v (em p G gs lo bk s q) = .ok () (em p G gs lo bk { s with data:=s.data.set a.toNat v } q):=by
 unfold Mx.Mc.putDa;exact if_pos (show Mx.Mc.inB s.data a=true from wb ab F)
theorem Ex (h:C[p]? = some ⟨5,a,b⟩) (ab:0<=a) (F:a<s.data.length):Mx.Mc.core C mt (em p (G++[v]) gs lo bk s q) = .ok () (em (p+1) G gs lo bk { s with data:=s.data.set a.toNat v } (q+1)):=by
 rw [hH h];show (Mx.Mc.pop _).bind _=_;rw [kV];exact zq ab F
theorem Ey (h:C[p]? = some ⟨6,a,b⟩) (a8:G.length<2048) (af:¬ (v<0\/b<=v)):Mx.Mc.core C mt (em p (G++[v]) gs lo bk s q) = .ok () (em (p+1) (G++[wrap64 (a+v)]) gs lo bk s (q+1)):=by
 rw [hH h];show (Mx.Mc.pop _).bind _=_;rw [kV];show (if v<0\/b<=v then _ else _)=_;rw [if_neg af];exact n7 _ a8
theorem Ez (h:C[p]? = some ⟨6,a,b⟩) (af:v<0\/b<=v):∃ a9,Mx.Mc.core C mt (em p (G++[v]) gs lo bk s q) = .stop a9/\n6 2 s a9:=by
 rw [hH h];refine ⟨{ em (p+1) G gs lo bk s (q+1) with en:=2 },?_,rfl,rfl,rfl,rfl⟩;show (Mx.Mc.pop _).bind _=_;rw [kV];show (if v<0\/b<=v then _ else _)=_;rw [if_pos af]
 rfl
theorem EA (h:C[p]? = some ⟨7,a,b⟩) (a8:G.length<2048) (ab:0<=v) (F:v<s.data.length):Mx.Mc.core C mt (em p (G++[v]) gs lo bk s q) = .ok () (em (p+1) (G++[s.data.getD v.toNat 0]) gs lo bk s (q+1)):=by
 rw [hH h];show (Mx.Mc.pop _).bind _=_;rw [kV];show (Mx.Mc.getL s.data v _).bind _=_;rw [we ab F];exact n7 _ a8
theorem EB (h:C[p]? = some ⟨8,a,b⟩) (ab:0<=x) (F:x<s.data.length):Mx.Mc.core C mt (em p (G++[x]++[v]) gs lo bk s q) = .ok () (em (p+1) G gs lo bk { s with data:=s.data.set x.toNat v } (q+1)):=by
 rw [hH h];show (Mx.Mc.pop _).bind _=_;rw [kV];show (Mx.Mc.pop _).bind _=_;rw [kV];exact zq ab F
theorem EC (h:C[p]? = some ⟨9,a,b⟩) (a8:G.length<2048):Mx.Mc.core C mt (em p (G++[v]) gs lo bk s q) = .ok () (em (p+1) (G++[gj (decide (v=0))]) gs lo bk s (q+1)):=by
 rw [hH h];show (Mx.Mc.pop _).bind _=_;rw [kV];show Mx.Mc.push (Mx.Mc.truth (v == 0)) _=_;rw [n7 _ a8,show Mx.Mc.truth (v == 0)=gj (decide (v=0)) from rfl]
theorem zr (h:C[p]? = some ⟨22,a,b⟩) (a8:G.length<2048):Mx.Mc.core C mt (em p (G++[v]) gs lo bk s q) = .ok () (em (p+1) (G++[gj (decide (v≠0))]) gs lo bk s (q+1)):=by
 rw [hH h];show (Mx.Mc.pop _).bind _=_;rw [kV];show Mx.Mc.push (Mx.Mc.truth (v != 0)) _=_
 have e:Mx.Mc.truth (v != 0)=gj (decide (v≠0)):=by
  unfold Mx.Mc.truth gj
  by_cases af:v=0<;>simp [af]
 rw [n7 _ a8,e]
theorem ED (h:C[p]? = some ⟨10,a,b⟩) (ap:9<=a/\a<=15) (a8:G.length<2048):match kT a x v with
 | some n=>Mx.Mc.core C mt (em p (G++[x]++[v]) gs lo bk s q) = .ok () (em (p+1) (G++[n]) gs lo bk s (q+1))
 | none=>∃ a9,Mx.Mc.core C mt (em p (G++[x]++[v]) gs lo bk s q) = .stop a9/\n6 1 s a9:=by
 have e:kT a x v=Mx.Mc.reck a x v:=rfl;rw [e,hH h]
 have F:Mx.Mc.doI mt ⟨10,a,b⟩ (em (p+1) (G++[x]++[v]) gs lo bk s (q+1))=match Mx.Mc.reck a x v with
  | some n=>Mx.Mc.push n (em (p+1) G gs lo bk s (q+1))
  | none=>Mx.Mc.halt 1 (em (p+1) G gs lo bk s (q+1)):=by
  show Mx.Mc.math a _=_;unfold Mx.Mc.math;rw [if_pos (by unfold Mx.Mc.isOp;rw [decide_eq_true ap.1,decide_eq_true ap.2];rfl),kV];exact SN
 rw [F]
 cases Mx.Mc.reck a x v with
 | some n=>exact n7 n a8
 | none=>exact ⟨_,rfl,rfl,rfl,rfl,rfl⟩
theorem tP (n:Nat) (h:C[p]? = some ⟨11,n,b⟩):Mx.Mc.core C mt (em p G gs lo bk s q) = .ok () (em n G gs lo bk s (q+1)):=by
 rw [hH h];rfl
theorem sB (n:Nat) (h:C[p]? = some ⟨12,n,b⟩):Mx.Mc.core C mt (em p (G++[v]) gs lo bk s q) = .ok () (em (if v=0 then n else p+1) G gs lo bk s (q+1)):=by
 rw [hH h];show (Mx.Mc.pop _).bind _=_;rw [kV]
 by_cases af:v=0
 . show Mx.Mc.Res.ok () (if v=0 then _ else _)=_
   rw [if_pos af,if_pos af];rfl
 . show Mx.Mc.Res.ok () (if v=0 then _ else _)=_
   rw [if_neg af,if_neg af]
theorem EE (h:C[p]? = some ⟨16,a,b⟩) (Z:(s.ticks:Int)≠mt):Mx.Mc.core C mt (em p G gs lo bk s q) = .ok () (em (p+1) G gs lo bk { s with ticks:=s.ticks+1 } (q+1)):=by
 rw [hH h];show Mx.Mc.tick mt _=_;unfold Mx.Mc.tick;rw [if_neg (by exact Z)]
 rfl
theorem EF (h:C[p]? = some ⟨16,a,b⟩) (Z:(s.ticks:Int)=mt):∃ a9,Mx.Mc.core C mt (em p G gs lo bk s q) = .stop a9/\n6 3 s a9:=by
 rw [hH h];refine ⟨{ em (p+1) G gs lo bk s (q+1) with en:=3 },?_,rfl,rfl,rfl,rfl⟩;show Mx.Mc.tick mt _=_;unfold Mx.Mc.tick;rw [if_pos (by exact Z)]
 rfl
theorem EG (h:C[p]? = some ⟨17,a,b⟩):Mx.Mc.core C mt (em p (G++[v]) gs lo bk s q) = .ok () (em (p+1) G gs lo bk s (q+1)):=by
 rw [hH h];exact SN
theorem EH (h:C[p]? = some ⟨18,a,b⟩) (a8:G.length<2048):∃ n t,ka s = .ok n t/\t.data=s.data/\t.calls=s.calls/\t.ticks=s.ticks/\Mx.Mc.core C mt (em p G gs lo bk s q) = .ok () (em (p+1) (G++[n]) gs lo bk t (q+1)):=by
 rw [hH h];refine ⟨s.inp.headD 0,{ s with inp:=s.inp.tail },?_,rfl,rfl,rfl,?_⟩
 . unfold ka
   obtain ⟨d,i,aj,t,an⟩:=s
   cases i<;>rfl
 . exact n7 (s:={ s with inp:=s.inp.tail }) _ a8
theorem EI (h:C[p]? = some ⟨19,a,b⟩):match jO v s with
 | .ok _ t=>t.data=s.data/\t.calls=s.calls/\t.ticks=s.ticks/\Mx.Mc.core C mt (em p (G++[v]) gs lo bk s q) = .ok () (em (p+1) G gs lo bk t (q+1))
 | .stop e t=>t=s/\∃ a9,Mx.Mc.core C mt (em p (G++[v]) gs lo bk s q) = .stop a9/\n6 e s a9:=by
 rw [hH h]
 have F:Mx.Mc.doI mt ⟨19,a,b⟩ (em (p+1) (G++[v]) gs lo bk s (q+1))=Mx.Mc.tell v (em (p+1) G gs lo bk s (q+1)):=by
  exact SN
 rw [F];unfold jO Mx.Mc.tell
 by_cases J:s.out.length=200
 . rw [if_pos J,if_pos (by exact J)]
   exact ⟨rfl,_,rfl,rfl,rfl,rfl,rfl⟩
 . rw [if_neg J,if_neg (by exact J)]
   exact ⟨rfl,rfl,rfl,rfl⟩
theorem EJ (h:C[p]? = some ⟨13,a,b⟩) (Z:(s.ticks:Int)=mt):∃ a9,Mx.Mc.core C mt (em p G gs lo bk s q) = .stop a9/\n6 3 s a9:=by
 rw [hH h];refine ⟨{ em (p+1) G gs lo bk s (q+1) with en:=3 },?_,rfl,rfl,rfl,rfl⟩;show Mx.Mc.call mt a _=_;unfold Mx.Mc.call Mx.Mc.tick;rw [if_pos (by exact Z)]
 rfl
theorem EK (h:C[p]? = some ⟨13,a,b⟩) (Z:(s.ticks:Int)≠mt) (hd:gs.length=24):∃ a9,Mx.Mc.core C mt (em p G gs lo bk s q) = .stop a9/\n6 4 { s with ticks:=s.ticks+1 } a9:=by
 rw [hH h];refine ⟨{ em (p+1) G gs lo bk { s with ticks:=s.ticks+1 } (q+1) with en:=4 },?_,rfl,rfl,rfl,rfl⟩;show Mx.Mc.call mt a _=_;unfold Mx.Mc.call Mx.Mc.tick;rw [if_neg (by exact Z)];show (if 24<gs.length+1 then _ else _)=_;rw [if_pos N7]
 rfl
theorem EL (n:Nat) (h:C[p]? = some ⟨13,n,b⟩) (Z:(s.ticks:Int)≠mt) (hd:gs.length<24):Mx.Mc.core C mt (em p G gs lo bk s q) = .ok () (em n G (gs++[(lo,bk)]) [] ((p+1:Nat):Int) { s with ticks:=s.ticks+1 } (q+1)):=by
 rw [hH h];show Mx.Mc.call mt n _=_;unfold Mx.Mc.call Mx.Mc.tick;rw [if_neg (by exact Z)];show (if 24<gs.length+1 then _ else _)=_;rw [if_neg N7]
 rfl
theorem EM {al:List Int} (h:C[p]? = some ⟨14,a,b⟩) (ab:0<=a) (F:0<=b) (J:a+b<=2048) (af:(al.length:Int)=a):Mx.Mc.core C mt (em p (G++al) gs lo bk s q) = .ok () (em (p+1) G gs (al++List.replicate b.toNat 0) bk s (q+1)):=by
 rw [hH h];show Mx.Mc.enter a b _=_;unfold Mx.Mc.enter
 have X:(G++al).length - a.toNat=G.length:=Of
 rw [if_pos ⟨ab,F,N7⟩,if_pos (by show a<=((G++al).length:Int);simp;omega)];show Mx.Mc.Res.ok () (em (p+1) ((G++al).take ((G++al).length - a.toNat)) gs ((G++al).drop ((G++al).length - a.toNat)++List.replicate b.toNat 0) bk s (q+1))=_;rw [X,List.take_left,List.drop_left]
theorem zt {n:Nat} {lo':List Int} {c:Int} (h:C[p]? = some ⟨15,a,b⟩):Mx.Mc.core C mt (em p G (gs++[(lo',c)]) lo (n:Int) s q) = .ok () (em n G gs lo' c s (q+1)):=by
 rw [hH h];show Mx.Mc.ret _=_;unfold Mx.Mc.ret;simp [em]
theorem EN (h:C[p]? = some ⟨20,a,b⟩):∃ a9,Mx.Mc.core C mt (em p G gs lo bk s q) = .stop a9/\n6 0 s a9:=by
 rw [hH h];exact ⟨_,rfl,rfl,rfl,rfl,rfl⟩
end
end Go.Proofs.YtndkhgakfodldaaGreatDoor

namespace Go.Proofs.YtndkhgakfodldaaGreatDoor
open Go.RowKit Go.Maps Go.WideMaps
theorem zu (o:dP):na o=jQ o.fixes.length (n0 o):=rfl
theorem EO (o:dP) (a4:OA) (ad:Nat) (a5:OA) (y3:Nat) (ax:OA) (y4:Nat) (aG:OA) (y5:Nat) (w:World) (b6:i1 w o a4 a5 ax aG) :
 dw 84 #[.agg #[.string o.name,.slice a4 o.uses.length ad,di o.data,.slice a5 o.code.length y3,.slice ax o.fixes.length y4,.slice aG o.entries.length y5,di o.main]] w fun e G=>e = .returned (.bool (na o))/\dm w G:=by
 have bc:=b6.fixes.bound;have P:=hid b6;have A:=hid (fun (x:Int) (M:World)=>D9 o o.name a4 o.uses.length ad o.data a5 y3 ax o.fixes.length y4 aG o.entries.length y5 o.main x M b6.code.bound);have aL:=hid (fun (f:gd) (M:World) (ai:dm w M) (aA:jg o f.at_=true)=>NP o a4 ad a5 y3 ax y4 aG y5 f M aA (b6.code.later ai) b6.uses.bound);clear b6;go_enter Tryz.func84,Tryz.ntmps84;go_wp2_with fail
 go_loopw [3,9] (fun v i wr=>∃ j:Nat,j<=o.fixes.length/\i=di j/\v=di (m8 o j)/\(∀ k,k<j->n0 o k=true)/\dm w wr/\wr.heap[w.heap.size]? = some (kU o a4 ad a5 y3 ax y4 aG y5)) (fun _ i _=>o.fixes.length - (intOf i).toNat)
 case atStart=>exact ⟨0,dY _,rfl,rfl,fun k N=>absurd N (pz k),dn _ _,dX w (kU o a4 ad a5 y3 ax y4 aG y5)⟩
 case round=>
  obtain ⟨j,a2,rfl,rfl,aS,I,aF⟩:=hrel;obtain ⟨aH,az,aK,aW,bg,q5,q6,_⟩:=fi aF;have b5:=lt_of_heap aF;have ag:=hid I;have aZ:=hid aF;have b2:=hid aS;clear aS aF I
  by_cases ac:j<o.fixes.length
  . obtain ⟨b,C,rfl,S⟩:=(P.later ag).fixes.gf j ac
    have aP:Hid (n0 o j=(decide (m8 o j<o.fixes[j].at_)&&(jg o o.fixes[j].at_&&p6 o o.fixes[j]))):=by show _=_;unfold n0;rw [ew ac]
    have aQ:Hid (m8 o (j+1)=o.fixes[j].at_):=by show (match o.fixes[j]? with | some f=>f.at_ | none=>-1)=_;rw [ew ac]
    have aD:=hid (fun (h:n0 o j=false)=>(by rw [zu,p7 ac h]:na o=false));have aM:=hid (fun (h:n0 o j=true)=>q3 b2 (h));obtain ⟨bb,bF,bo,ei,_,_,_⟩:=S;generalize o.fixes[j]=f at *;generalize m8 o j=E at *
    by_cases b8:E<f.at_
    . have m:=hid (eR (o:=.cells #[di f.at_,di f.kind,di f.m] 67) aZ)
      have g:=hid (dX wr (.cells #[di f.at_,di f.kind,di f.m] 67));have O:=hid (dp ag (dn wr (.cells #[di f.at_,di f.kind,di f.m] 67)))
      have bA:wr.heap.size<(wr.alloc (.cells #[di f.at_,di f.kind,di f.m] 67)).heap.size:=Ob
      have ba:w.heap.size<(wr.alloc (.cells #[di f.at_,di f.kind,di f.m] 67)).heap.size:=Of
      have c:=hid ba;have cb:=hid bA;clear ba bA;go_wp2_with fail;refine (A f.at_ _).mono ?_;rintro e dk ⟨rfl,aq⟩;have B:=hid (dp O aq);have bl:=hid ((aq.block _ c).trans m);have a:=hid ((aq.block _ cb).trans g);clear aH az aK aW bg q5 q6 b5 aq bF bo ei bb;obtain ⟨aH,az,aK,aW,bg,q5,q6,_⟩:=fi bl;have b5:=lt_of_heap bl;obtain ⟨bF,bo,ei,_⟩:=nP a;have bw:=lt_of_heap a
      cases aA:jg o f.at_ with
      | false=>
        have z:=hid (aD (by rw [aP.out,aA];simp));exact Qu
      | true=>
        have ao:=hid (aL f dk B aA);go_wp2_with fail;refine ao.mono ?_;rintro e w2 ⟨rfl,aN⟩;have t:=hid (dp B aN);have bX:=hid ((aN.block _ b5).trans bl);have d:=hid ((aN.block _ bw).trans a);clear aH az aK aW bg q5 q6 b5 bF bo ei bw aN;obtain ⟨bF,bo,ei,_⟩:=nP d;have bw:=lt_of_heap d
        cases Y:p6 o f with
        | false=>
          have z:=hid (aD (by rw [aP.out,Y];simp));go_wp2_with fail;go_ret;exact ⟨ret_bool z.symm,t⟩
        | true=>
          have ar:=hid (aM (by rw [aP.out,Y,aA,decide_eq_true b8];rfl));go_wp2_with fail;go_roundw
          case rel=>exact ⟨j+1,N7,Ou,by rw [aQ.out],ar,t,bX⟩
          case measure=>simp [intOf];omega
    . have z:=hid (aD (by rw [aP.out,decide_eq_false b8];rfl))
      have l:f.at_<=E:=N7
      clear b8;go_wp2_with fail;go_ret;exact ⟨ret_bool z.symm,dp ag (dn _ _)⟩
  . obtain rfl:j=o.fixes.length:=by omega
    have z:Hid (na o=true):=by show _=_;rw [zu,iN.2 b2.out]
    exact Rf
theorem EP (o:dP) (a4:OA) (ad:Nat) (a5:OA) (y3:Nat) (ax:OA) (y4:Nat) (aG:OA) (y5:Nat) (w:World) (b6:i1 w o a4 a5 ax aG) (g:o.uses.length<=ad) :
 dw 32 #[.agg #[.string o.name,.slice a4 o.uses.length ad,di o.data,.slice a5 o.code.length y3,.slice ax o.fixes.length y4,.slice aG o.entries.length y5,di o.main]] w fun e G=>e = .returned (di (fD o))/\dm w G:=by
 have br:Hid (fD o=if kv o=true then 2 else if (lW o&&(jh o&&na o))=true then 0 else 1):=rfl;have L:=hid (Nz o o.name a4 ad o.data a5 y3 ax o.fixes.length y4 aG y5 o.main (w.alloc (kU o a4 ad a5 y3 ax y4 aG y5)) b6.uses.bound b6.code.bound b6.entries.bound);have aV:=hid (fun (M:World) (ai:dm w M) (U:o.uses.length<=3)=>NK o a4 ad a5 y3 ax y4 aG y5 M (b6.later ai) U g);have ao:=hid (fun (M:World) (ai:dm w M)=>NI o a4 ad a5 y3 ax y4 aG y5 M (b6.later ai));have aD:=hid (fun (M:World) (ai:dm w M)=>EO o a4 ad a5 y3 ax y4 aG y5 M (b6.later ai));clear b6;go_enter Tryz.func32,Tryz.ntmps32;go_wp2_with fail;refine L.mono ?_;rintro e dk ⟨rfl,aq⟩;have B:=hid (dp (dn w _) aq);have bl:=hid ((aq.block _ Ob).trans (dX w (kU o a4 ad a5 y3 ax y4 aG y5)));clear aq
 obtain ⟨aH,az,aK,aW,bg,q5,q6,_⟩:=fi bl;have b5:=lt_of_heap bl
 cases a1:kv o with
 | true=>
   have z:Hid (fD o=2):=by show _=_;rw [br.out,a1];rfl
   go_wp2_with fail;go_ret;exact ⟨by rw [z.out];first | done | rfl,B⟩
 | false=>
 have U:o.uses.length<=3:=by
  unfold kv at a1;simp only [hG,decide_eq_false_iff_not] at a1;omega
 have z:Hid (fD o=if (lW o&&(jh o&&na o))=true then 0 else 1):=by show _=_;rw [br.out,a1];rfl
 have a:=hid (aV dk B U);clear a1 U br;go_wp2_with fail;refine a.mono ?_;rintro e w2 ⟨rfl,aN⟩;have O:=hid (dp B aN);have m:=hid ((aN.block _ b5).trans bl);have b:=hid (ao w2 O);clear aN aH az aK aW bg q5 q6 b5;obtain ⟨aH,az,aK,aW,bg,q5,q6,_⟩:=fi m;have b5:=lt_of_heap m
 cases Z:lW o with
 | false=>
   have n:Hid (fD o=1):=by show _=_;rw [z.out,Z];rfl
   go_wp2_with fail;go_ret;exact ⟨PD,O⟩
 | true=>
 have aY:Hid (fD o=if (jh o&&na o)=true then 0 else 1):=by show _=_;rw [z.out,Z];rfl
 go_wp2_with fail;refine b.mono ?_;rintro e dC ⟨rfl,T⟩;have t:=hid (dp O T);have bX:=hid ((T.block _ b5).trans m);have v:=hid (aD dC t);clear T aH az aK aW bg q5 q6 b5;obtain ⟨aH,az,aK,aW,bg,q5,q6,_⟩:=fi bX;have b5:=lt_of_heap bX
 cases W:jh o with
 | false=>
   have n:Hid (fD o=1):=by show _=_;rw [aY.out,W];rfl
   go_wp2_with fail;go_ret;exact ⟨PD,t⟩
 | true=>
 go_wp2_with fail;refine v.mono ?_;rintro e dD ⟨rfl,bc⟩;have X:=hid (dp t bc);clear bc aH az aK aW bg q5 q6 b5
 cases Y:na o with
 | false=>
   have n:Hid (fD o=1):=by show _=_;rw [aY.out,W,Y];rfl
   go_wp2_with fail;go_ret;exact ⟨PD,X⟩
 | true=>
   have n:Hid (fD o=0):=by show _=_;rw [aY.out,W,Y];rfl
   go_wp2_with fail;go_ret;exact ⟨PD,X⟩
end Go.Proofs.YtndkhgakfodldaaGreatDoor
