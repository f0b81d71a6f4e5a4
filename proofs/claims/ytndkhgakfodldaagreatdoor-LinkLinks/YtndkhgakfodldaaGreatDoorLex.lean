import Derived.Test.YtndkhgakfodldaaGreatDoorStep
import Derived.Test.YtndkhgakfodldaaGreatDoorPj
namespace Go.Proofs.YtndkhgakfodldaaGreatDoor
set_option maxRecDepth 100000
set_option maxHeartbeats 400000
open Go.RowKit
theorem z5r (s:ByteArray) (w:World) (hs:s.size<=maxLen) :
 qc 114 #[.string s] w fun e w'=>∃ a cap,e = .returned (.tuple #[.slice a (lexT s).length cap,qi (lexE s)])/\zdb w' a (lexT s)/\qb w w':=by
 unfold maxLen at hs
 by_cases Kc:4096<s.size
 . have HE:Hid (lexT s=[]/\lexE s=2):=z2b Kc
   go_enter Tryz.func114,Tryz.ntmps114;go_wp2_with fail;go_ret2;exact ⟨none,0,ew,dA,Below.refl _ _⟩
 . have HC:Hid (qc 157 #[.string s] w fun e w'=>∃ a cap,e = .returned (.tuple #[.slice a (lexT s).length cap,qi (lexE s)])/\zdb w' a (lexT s)/\qb w w'):=zw6 s w ae
   generalize lexT s=ts at *;generalize lexE s=n at *;go_enter Tryz.func114,Tryz.ntmps114;go_wp2_with fail;refine HC.out.mono ?_;rintro e w2 ⟨a,cap,rfl,hT,hb⟩;have HT:Hid (zdb w2 a ts):=hT;clear hT HC;go_wp2_with fail;go_ret2;exact ⟨a,cap,rfl,HT.out,hb⟩
def z71:Nat->ByteArray->Nat->Option (List Tk)
 | 0,s,a=>if a<s.size then none else some []
 | f + 1,s,a=>
   if h:a<s.size then
    if ze4 s[a] then z71 f s (a+Lx.pieceN s a)
    else match zc9 (s.extract a (a+Lx.pieceN s a)) with
     | none=>none
     | some t=>(z71 f s (a+Lx.pieceN s a)).map (t :: ·)
   else some []
theorem zyu:∀ (f:Nat) (s:ByteArray) (a:Nat),s.size - a<=f->z71 f s a=zdm s a
 | 0,s,a,h=>by rw [zk7 s a ae];unfold z71;rw [if_neg ae]
 | f+1,s,a,h=>by
   have hp:=Lx.zg4 s a;have ih:=zyu f s (a+Lx.pieceN s a) ae;rw [zdm,z71,ih]
   cases zc9 (s.extract a (a+Lx.pieceN s a))<;>rfl
def zh8 (l:L8):Nat:=if Lx.z7s l=0 then 1 else Lx.z7s l
theorem znm (l:L8):0<zh8 l:=by unfold zh8;split<;>omega
def zxz:L8->Option (List Tk)
 | []=>some []
 | c :: l=>
   if ze4 c then zxz ((c :: l).drop (zh8 (c :: l)))
   else match zc9 (strOf ((c :: l).take (zh8 (c :: l)))) with
    | none=>none
    | some t=>(zxz ((c :: l).drop (zh8 (c :: l)))).map (t :: ·)
termination_by l=>l.length
decreasing_by
 all_goals have:=znm (c :: l);simp only [vbz,vaw];omega
theorem zsv (s:ByteArray) (a n:Nat):s.extract a (a+n)=strOf ((s.data.toList.drop a).take n):=by
 rw [← zwg,strOf_back]
theorem zwi:∀ (n:Nat) (s:ByteArray) (a:Nat),s.size - a=n->zdm s a=zxz (s.data.toList.drop a):=by
 intro n
 induction n using Nat.strongRecOn with
 | _ n ih=>
   intro s a hn
   by_cases h:a<s.size
   . have hd:=zyr s a h
     have hp:Lx.pieceN s a=zh8 (s.data.toList.drop a):=rfl;have Gc:=Lx.zg4 s a;have Pf:=ih (s.size - (a+Lx.pieceN s a)) ae s (a+Lx.pieceN s a) rfl
     have Gq:s.data.toList.drop (a+Lx.pieceN s a)=(s.data.toList.drop a).drop (Lx.pieceN s a):=by rw [List.drop_drop]
     cases hb:ze4 s[a] with
     | true=>
       rw [zk8 s a h hb,Pf,Gq,hp,hd,zxz,if_pos hb]
     | false=>
       have he:=zsv s a (Lx.pieceN s a)
       cases ht:zc9 (s.extract a (a+Lx.pieceN s a)) with
       | none=>
         rw [znk s a h hb ht];rw [he,hp,hd] at ht;rw [hd,zxz,if_neg (by simp [hb]),ht]
       | some t=>
         rw [znl s a t h hb ht,Pf,Gq];rw [he,hp,hd] at ht;rw [hp,hd,zxz,if_neg (by simp [hb]),ht]
   . rw [zk7 s a h,vcw (by rw [Lx.za0];omega),zxz]
theorem zwj (s:ByteArray):zdm s 0=zxz s.data.toList:=by
 have:=zwi _ s 0 rfl;rwa [List.drop_zero] at this
theorem zsw {s:ByteArray} {t:Tk} (h:zc9 s=some t):zem t=true/\Tk.okB t=true:=by
 unfold zc9 at h
 split at h
 . rename_i hs
   cases h;exact ⟨rfl,by unfold Tk.okB;simp [hs]⟩
 . split at h
   . rename_i hn
     cases h;exact ⟨rfl,by unfold Tk.okB;simp [hn]⟩
   . split at h
     . rename_i hk
       cases h;refine ⟨rfl,?_⟩
       have hv:Lx.valL s.data.toList<=1099511627775:=by unfold Lx.zhc at hk;simp at hk;exact hk.2
       unfold Tk.okB;rw [vay];simp;omega
     . cases h
theorem zwk:∀ (n:Nat) (l:L8) (ts:List Tk),l.length=n->zxz l=some ts->zc4 ts/\ts.length<=l.length:=by
 intro n
 induction n using Nat.strongRecOn with
 | _ n ih=>
   intro l ts hn h
   cases l with
   | nil=>rw [zxz] at h;cases h;exact ⟨⟨rfl,rfl⟩,vaa _⟩
   | cons c r=>
     have Gc:=znm (c :: r)
     have Ah:((c :: r).drop (zh8 (c :: r))).length<n:=by rw [vbz];simp at hn ⊢;omega
     rw [zxz] at h
     split at h
     . obtain ⟨h1,h2⟩:=ih _ Ah _ ts rfl h
       exact ⟨h1,ae⟩
     . cases ht:zc9 (strOf ((c :: r).take (zh8 (c :: r)))) with
       | none=>rw [ht] at h;cases h
       | some t=>
         rw [ht] at h
         cases hr:zxz ((c :: r).drop (zh8 (c :: r))) with
         | none=>rw [hr] at h;cases h
         | some us=>
           rw [hr] at h;cases h;obtain ⟨h1,h2⟩:=ih _ Ah _ us rfl hr;obtain ⟨hk,ho⟩:=zsw ht;refine ⟨⟨?_,?_⟩,?_⟩
           . rw [vcp,hk,h1.1];rfl
           . rw [vcp,ho,h1.2];rfl
           . simp only [vaw] at *;omega
def kTk (t:ByteArray):Tk:=⟨if Lx.zbw t.data.toList then 1 else 3,0,t⟩
def wTk (t:ByteArray):Tk:=⟨1,0,t⟩
def nTk (n:Int):Tk:=⟨2,n,⟨#[]⟩⟩
theorem zyv {l:L8} (h:Lx.zkd l=true):Lx.zbw l=false:=by
 match l,h with
 | [c],h=>
   have h':Lx.signs.contains c=true:=h
   have Cp:∀ c ∈ Lx.signs,Lx.zbw [c]=false:=aq
   exact Cp c (vcj.1 h')
theorem zc4.of_app {a b:List Tk} (h:zc4 (a++b)):zc4 b:=by
 obtain ⟨h1,h2⟩:=h;rw [vbp,vac] at h1 h2;exact ⟨h1.2,h2.2⟩
theorem zc4.head {t:Tk} {b:List Tk} (h:zc4 (t :: b)):zem t=true/\Tk.okB t=true:=by
 obtain ⟨h1,h2⟩:=h;rw [vcp,vac] at h1 h2;exact ⟨h1.1,h2.1⟩
theorem zc4.of_eq {a b c:List Tk} (h:zc4 a) (e:a=b++c):zc4 c:=by rw [e] at h;exact h.of_app
theorem toList_inj {s t:ByteArray} (h:s.toList=t.toList):s=t:=by
 rw [vay,vay] at h;exact vem (Array.ext' h)
theorem zaz {l:List Tk} {t:ByteArray} (hr:zc4 l) (ht:0<t.size) (h:skB l t=true):l=kTk t :: l.tail:=by
 cases l with
 | nil=>exact absurd rfl (z0k ht h)
 | cons x r=>
   obtain ⟨hk,ho⟩:=hr.head;obtain ⟨k,n,s⟩:=x;have hs:s=t:=toList_inj (beq_iff_eq.1 h);subst hs;show Tk.mk k n s :: r=kTk s :: r
   have Ai:s.toList.isEmpty=false:=by
    cases he:s.toList.isEmpty with
    | false=>rfl
    | true=>
      rw [vay] at he;have h1:=Lx.za0 s;rw [List.isEmpty_iff.1 he] at h1;simp at h1;omega
   unfold zem at hk;simp only [vac,decide_eq_true_eq] at hk;unfold Tk.okB at ho
   have NX:k=1\/k=2\/k=3:=ae
   rcases NX with rfl | rfl | rfl
   . simp at ho
     unfold kTk
     rw [ho.1,ho.2];rfl
   . simp [Ai] at ho
   . simp at ho
     unfold kTk
     rw [ho.1,zyv ho.2];rfl
theorem z2c (s:ByteArray):zpn s=zrf s:=by
 unfold zpn zrf;rw [vay];show z6u.any _=kept.contains _;rw [vci,List.any_eq_true,vcj]
 constructor
 . rintro ⟨x,hx,h⟩
   rw [beq_iff_eq.1 h];exact hx
 . intro h
   exact ⟨_,h,beq_self_eq_true _⟩
theorem zdz {l l':List Tk} {a:ByteArray} (hr:zc4 l) (h:zdo l=some (a,l')):l=wTk a :: l'/\nameOk a=true:=by
 unfold zdo at h
 split at h
 . rename_i hk
   obtain ⟨rfl,rfl⟩:=vap (vab h);simp only [vac,beq_iff_eq,vdh] at hk
   cases l with
   | nil=>exact absurd hk.1 aq
   | cons x r=>
     obtain ⟨_,ho⟩:=hr.head;obtain ⟨k,n,s⟩:=x;have e1:k=1:=hk.1;have e2:zpn s=false:=hk.2;subst e1;unfold Tk.okB at ho;simp at ho;have e3:n=0:=ho.1;subst e3;refine ⟨rfl,?_⟩;show nameOk s=true;unfold nameOk
     rw [← z2c,e2,ho.2];rfl
 . cases h
theorem zsx {l l':List Tk} {a:Int} (hr:zc4 l) (h:pNum l=some (a,l')):l=nTk a :: l'/\0<=a/\a<=1099511627775:=by
 unfold pNum at h
 split at h
 . rename_i hk
   obtain ⟨rfl,rfl⟩:=vap (vab h)
   cases l with
   | nil=>exact absurd hk aq
   | cons x r=>
     obtain ⟨_,ho⟩:=hr.head;obtain ⟨k,n,s⟩:=x;have e1:k=2:=hk;subst e1;unfold Tk.okB at ho;simp at ho
     have e2:s=⟨#[]⟩:=by
      apply toList_inj
      rw [ho.1,vay]
     subst e2;exact ⟨rfl,ho.2⟩
 . cases h
def z4z (m n:ByteArray):List Tk:=if m.size=0 then [wTk n] else [wTk m,kTk z6t,wTk n]
theorem z2d {s:ByteArray} (h:nameOk s=true):0<s.size:=by
 rcases vde s.size with h0 | h0
 . exfalso
   have:s.data.toList=[]:=vam (by rw [Lx.za0];exact h0);unfold nameOk at h;rw [this] at h;simp [Lx.zbw,Lx.zpd] at h
 . exact h0
theorem zyw {l l':List Tk} {m n:ByteArray} (hr:zc4 l) (h:zx1 l=some ((m,n),l')):l=z4z m n++l'/\nameOk n=true/\(m.size=0\/nameOk m=true):=by
 unfold zx1 at h
 split at h
 . cases h
 rename_i a l1 h1
 obtain ⟨e1,n1⟩:=zdz hr h1;have r1:zc4 l1:=hr.of_eq (b:=[wTk a]) e1
 split at h
 . rename_i hs
   have e2:=zaz r1 aq hs
   split at h
   . cases h
   rename_i b l2 h2
   obtain ⟨e3,n3⟩:=zdz (r1.of_eq (b:=[kTk z6t]) e2) h2;obtain ⟨h3,rfl⟩:=vap (vab h);obtain ⟨rfl,rfl⟩:=vap h3;refine ⟨?_,n3,Or.inr n1⟩;unfold z4z
   rw [if_neg (by have:=z2d n1;omega),e1,e2,show l1.tail=wTk b :: l2 from e3];rfl
 . obtain ⟨h3,rfl⟩:=vap (vab h)
   obtain ⟨rfl,rfl⟩:=vap h3;exact ⟨e1,n1,Or.inl rfl⟩
def z9h (op:Int):Tk:=kTk (opTexts.getD (op - 7).toNat ⟨#[]⟩)
def zd2:List (List Tk)->List Tk
 | []=>[]
 | [x]=>x
 | x :: y :: r=>x++kTk z3n :: zd2 (y :: r)
def exTok (op n:Int) (m nm:ByteArray) (xs:List (List Tk)):List Tk:=
 if op=1 then [nTk n] else if op=2 then [kTk tIn] else if op=3 then z4z m nm
 else if op=4 then z4z m nm++kTk tLs :: (xs.getD 0 []++[kTk tRs])
 else if op=5 then z4z m nm++kTk tLp :: (zd2 xs++[kTk tRp])
 else if op=6 then kTk z8v :: xs.getD 0 []
 else kTk tLp :: (xs.getD 0 []++z9h op :: (xs.getD 1 []++[kTk tRp]))
mutual
def tE:Ex->List Tk
 | .mk op n m nm args=>exTok op n m nm (tEs args)
def tEs:List Ex->List (List Tk)
 | []=>[]
 | x :: r=>tE x :: tEs r
end
theorem znn:∀ (a b:List Ex),tEs (a++b)=tEs a++tEs b
 | [],b=>by simp [tEs]
 | x :: r,b=>by simp [tEs,znn r b]
theorem zyx:∀ (a:List Ex),(tEs a).length=a.length
 | []=>by simp [tEs]
 | x :: r=>by simp [tEs,zyx r]
theorem zhr:∀ (a:List (List Tk)) (x:List Tk),a≠[]->zd2 (a++[x])=zd2 a++kTk z3n :: x
 | [],_,h=>absurd rfl h
 | [y],x,_=>by simp [zd2]
 | y :: z :: r,x,_=>by
   have:=zhr (z :: r) x aA;show y++kTk z3n :: zd2 ((z :: r)++[x])=(y++kTk z3n :: zd2 (z :: r))++kTk z3n :: x
   rw [this];simp
theorem zaw {n:Int} (h0 : -9223372036854775808<=n) (h1:n<=9223372036854775807):(Lit.int .i64 n).wf=true:=by
 have e1:IntKind.i64.min = -9223372036854775808:=aq
 have e2:IntKind.i64.max=9223372036854775807:=aq
 simp [Lit.wf,e1,e2];omega
theorem zh9:∀ (l:List Ex),(zbr l).length=5*l.length
 | []=>by simp [zbr]
 | x :: r=>by
   have:=x.ds_len
   simp [zbr,zh9 r,this];omega
theorem zen:∀ (l:List St),(zbs l).length=6*l.length
 | []=>by simp [zbs]
 | x :: r=>by
   have:=x.ds_len
   simp [zbs,zen r,this];omega
theorem zhs {op n:Int} {m nm:ByteArray} {args:List Ex} (h1:(Lit.int .i64 op).wf=true) (h2:(Lit.int .i64 n).wf=true) (h3:args.length<=10000) (h4:D.fines (zbr args)):D.fines (Ex.mk op n m nm args).ds:=by
 unfold Ex.ds;simp only [D.fines,D.fine];refine ⟨h1,h2,trivial,trivial,⟨?_,?_,h4⟩,trivial⟩
 . rw [zh9];omega
 . rw [zh9];omega
theorem zdc:D.fines []:=by unfold D.fines;trivial
theorem zd0 {x:Ex} (h:D.fines x.ds):D.fines (zbr [x]):=by rw [zkt];exact h
theorem zuz {x y:Ex} (h:D.fines x.ds) (k:D.fines y.ds):D.fines (zbr [x,y]):=by
 show D.fines (x.ds++(y.ds++[]));exact D.fines_append h (D.fines_append k zdc)
theorem z2e {l:List Tk} {k:Nat} (hr:zc4 l) (h:z0j l=some k):l=z9h (7+k) :: l.tail/\k<9:=by
 unfold z0j at h;obtain ⟨hk,h2,_⟩:=vbl.1 h
 have hp:0<(opTexts[k]).size:=by
  exact jY
 refine ⟨?_,hk⟩;have e:=zaz hr hp h2;unfold z9h;rw [show ((7:Int)+(k:Int) - 7).toNat=k from ae,vax,vad hk];exact e
def zia (l:List Tk):Prop:=zc4 l/\l.length<=4096
theorem zia.of_eq {a b c:List Tk} (h:zia a) (e:a=b++c):zia c:=⟨h.1.of_eq e,by have:=h.2;rw [e,vaj] at this;omega⟩
theorem zia.tl {a c:List Tk} {t:Tk} (h:zia a) (e:a=t :: c):zia c:=h.of_eq (b:=[t]) e
mutual
theorem zcs:∀ (f:Nat) (l l':List Tk) (x:Ex),zbp f l=some (x,l')->zia l->l=tE x++l'/\D.fines x.ds
 | 0,_,_,_,h,_=>by simp [zbp] at h
 | f + 1,l,l',x,h,hg=>by
   unfold zbp at h
   split at h
   . rename_i hk
     obtain ⟨rfl,rfl⟩:=vap (vab h)
     have hn:pNum l=some ((hd l).n,l.tail):=by unfold pNum;rw [if_pos hk]
     obtain ⟨e,h0,h1⟩:=zsx hg.1 hn;exact ⟨by simpa [tE,exTok] using e,zhs (zaw aq aq) (zaw ae ae) aA eQ⟩
   split at h
   . rename_i hs
     obtain ⟨rfl,rfl⟩:=vap (vab h);exact ⟨by simpa [tE,exTok] using zaz hg.1 aq hs,zhs (zaw aq aq) (zaw aq aq) aA eQ⟩
   split at h
   . rename_i hs
     have e:=zaz hg.1 aq hs
     split at h
     . cases h
     rename_i y l1 h1
     obtain ⟨rfl,rfl⟩:=vap (vab h);obtain ⟨e1,f1⟩:=zcs f _ _ _ h1 (hg.tl e);refine ⟨?_,zhs (zaw aq aq) (zaw aq aq) aA (zd0 f1)⟩
     rw [e,show l.tail=tE y++l1 from e1];simp [tE,tEs,exTok]
   split at h
   . rename_i hs
     have e:=zaz hg.1 aq hs;obtain ⟨e1,f1⟩:=zsy f _ _ _ h (hg.tl e);exact ⟨e.trans e1,f1⟩
   split at h
   . cases h
   rename_i m nm l1 h1
   obtain ⟨e1,n1,n2⟩:=zyw hg.1 h1;have g1:=hg.of_eq e1
   split at h
   . rename_i hs
     have e2:=zaz g1.1 aq hs
     split at h
     . cases h
     rename_i y l2 h2
     obtain ⟨e3,f3⟩:=zcs f _ _ _ h2 (g1.tl e2)
     split at h
     . rename_i AA
       have e4:=zaz ((g1.tl e2).of_eq e3).1 aq AA;obtain ⟨rfl,rfl⟩:=vap (vab h);refine ⟨?_,zhs (zaw aq aq) (zaw aq aq) aA (zd0 f3)⟩
       rw [e1,e2,show l1.tail=tE y++l2 from e3,e4];simp [tE,tEs,exTok]
     . cases h
   split at h
   . rename_i hs
     have e2:=zaz g1.1 aq hs
     split at h
     . cases h
     rename_i ys l2 h2
     obtain ⟨e3,f3,c3⟩:=zla f _ _ _ h2 (g1.tl e2);obtain ⟨rfl,rfl⟩:=vap (vab h);have CC:l1.tail.length<=4096:=(g1.tl e2).2;refine ⟨?_,zhs (zaw aq aq) (zaw aq aq) ae f3⟩
     rw [e1,e2,show l1.tail=zd2 (tEs ys)++kTk tRp :: l2 from e3];simp [tE,exTok]
   . obtain ⟨rfl,rfl⟩:=vap (vab h)
     refine ⟨?_,zhs (zaw aq aq) (zaw aq aq) aA eQ⟩
     rw [e1];simp [tE,exTok]
theorem zsy:∀ (f:Nat) (l l':List Tk) (x:Ex),zgv f l=some (x,l')->zia l->kTk tLp :: l=tE x++l'/\D.fines x.ds
 | 0,_,_,_,h,_=>by simp [zgv] at h
 | f + 1,l,l',x,h,hg=>by
   unfold zgv at h
   split at h
   . cases h
   rename_i a l1 h1
   obtain ⟨e1,f1⟩:=zcs f _ _ _ h1 hg;have g1:=hg.of_eq e1
   split at h
   . cases h
   rename_i k hk
   obtain ⟨e2,k9⟩:=z2e g1.1 hk
   split at h
   . cases h
   rename_i b l2 h2
   obtain ⟨e3,f3⟩:=zcs f _ _ _ h2 (g1.tl e2)
   split at h
   . rename_i hs
     have e4:=zaz ((g1.tl e2).of_eq e3).1 aq hs;obtain ⟨rfl,rfl⟩:=vap (vab h);refine ⟨?_,zhs (zaw ae ae) (zaw aq aq) aA (zuz f1 f3)⟩
     have BC:∀ xs,exTok (7+(k:Int)) 0 ⟨#[]⟩ ⟨#[]⟩ xs=kTk tLp :: (xs.getD 0 []++z9h (7+k) :: (xs.getD 1 []++[kTk tRp])):=by
      intro xs;unfold exTok;rw [if_neg ae,if_neg ae,if_neg ae,if_neg ae,if_neg ae,if_neg ae]
     rw [e1,e2,show l1.tail=tE b++l2 from e3,e4];simp only [tE,BC,tEs];simp
   . cases h
theorem zla:∀ (f:Nat) (l l':List Tk) (xs:List Ex),zex f l=some (xs,l')->zia l->l=zd2 (tEs xs)++kTk tRp :: l'/\D.fines (zbr xs)/\xs.length<=l.length
 | 0,_,_,_,h,_=>by simp [zex] at h
 | f + 1,l,l',xs,h,hg=>by
   unfold zex at h
   split at h
   . rename_i hs
     obtain ⟨rfl,rfl⟩:=vap (vab h);exact ⟨by simpa [tEs,zd2] using zaz hg.1 aq hs,eQ,aA⟩
   split at h
   . cases h
   rename_i x l1 h1
   obtain ⟨e1,f1⟩:=zcs f _ _ _ h1 hg;have A0:=zcq f _ _ _ h1;obtain ⟨e2,f2,c2⟩:=zlb f [x] l1 l' xs h (hg.of_eq e1) aA (by have:=hg.2;simp;omega) (zd0 f1);refine ⟨?_,f2,dN⟩
   rw [e1,← e2];simp [tEs,zd2]
theorem zlb:∀ (f:Nat) (A5:List Ex) (l l':List Tk) (xs:List Ex),zhf f A5 l=some (xs,l')->zia l->A5≠[]->A5.length+l.length<=10000->D.fines (zbr A5)->zd2 (tEs A5)++l=zd2 (tEs xs)++kTk tRp :: l'/\D.fines (zbr xs)/\xs.length<=A5.length+l.length
 | 0,_,_,_,_,h,_,_,_,_=>by simp [zhf] at h
 | f + 1,A5,l,l',xs,h,hg,Ai,hc,hf=>by
   unfold zhf at h
   split at h
   . rename_i hs
     have e:=zaz hg.1 aq hs;have hl:=zaj aq hs
     split at h
     . cases h
     rename_i x l1 h1
     obtain ⟨e1,f1⟩:=zcs f _ _ _ h1 (hg.tl e);have A0:=zcq f _ _ _ h1;obtain ⟨e2,f2,c2⟩:=zlb f (A5++[x]) l1 l' xs h ((hg.tl e).of_eq e1) aA aF (by rw [zh2];exact D.fines_append hf (zd0 f1));refine ⟨?_,f2,dN⟩;rw [← e2,znn,show tEs [x]=[tE x] from by simp [tEs],zhr _ _ (by intro h0;apply Ai;have:=zyx A5;rw [h0] at this;exact vam this.symm),e,show l.tail=tE x++l1 from e1];simp
   split at h
   . rename_i hs
     obtain ⟨rfl,rfl⟩:=vap (vab h);exact ⟨dC,hf,ae⟩
   . cases h
end
def zsz (op:Int) (m nm:ByteArray) (xs:List (List Tk)):List Tk:=
 if op=1 then z4z m nm++kTk tEq :: xs.getD 0 []
 else if op=2 then z4z m nm++kTk tLs :: (xs.getD 0 []++kTk tRs :: kTk tEq :: xs.getD 1 [])
 else if op=3 then z4z m nm++kTk tLp :: (zd2 xs++[kTk tRp])
 else if op=6 then kTk zf4 :: xs.getD 0 [] else kTk z48 :: xs.getD 0 []
def brT (x:List Tk):List Tk:=kTk tLb :: (x++[kTk tRb])
def zyy (op:Int) (m nm:ByteArray) (xs:List (List Tk)) (b o:List Tk) (k:Nat):List Tk:=
 if op=4 then kTk tIf :: (xs.getD 0 []++(brT b++(if k=0 then [] else kTk ztp :: brT o)))
 else if op=5 then kTk zhl :: (xs.getD 0 []++brT b)
 else zsz op m nm xs++[kTk zir]
mutual
def tS:St->List Tk
 | .mk op m nm args body other=>zyy op m nm (tEs args) (tSs body) (tSs other) other.length
def tSs:List St->List Tk
 | []=>[]
 | s :: r=>tS s++tSs r
end
theorem zno:∀ (a b:List St),tSs (a++b)=tSs a++tSs b
 | [],b=>by simp [tSs]
 | x :: r,b=>by simp [tSs,zno r b]
theorem z5s (s:St):tSs [s]=tS s:=by simp [tSs]
theorem zgl {op:Int} {m nm:ByteArray} {args:List Ex} {body other:List St} (h1:(Lit.int .i64 op).wf=true) (h3:args.length<=10000) (h4:D.fines (zbr args)) (h5:body.length<=10000) (h6:D.fines (zbs body)) (h7:other.length<=10000) (h8:D.fines (zbs other)):D.fines (St.mk op m nm args body other).ds:=by
 unfold St.ds;simp only [D.fines,D.fine];refine ⟨h1,trivial,trivial,⟨?_,?_,h4⟩,⟨?_,?_,h6⟩,⟨?_,?_,h8⟩,trivial⟩
 . rw [zh9];omega
 . rw [zh9];omega
 . rw [zen];omega
 . rw [zen];omega
 . rw [zen];omega
 . rw [zen];omega
theorem zds:D.fines (zbs []):=by unfold zbs;exact zdc
theorem zfx {l l':List Tk} {x:Ex} (h:pX l=some (x,l')) (hg:zia l):l=tE x++l'/\D.fines x.ds:=zcs _ _ _ _ h hg
theorem zyz {l l':List Tk} {xs:List Ex} (h:pAs l=some (xs,l')) (hg:zia l):l=zd2 (tEs xs)++kTk tRp :: l'/\D.fines (zbr xs)/\xs.length<=l.length:=zla _ _ _ _ h hg
def z40:St->List Tk
 | .mk op m nm args _ _=>zsz op m nm (tEs args)
theorem zqw {l l':List Tk} {s:St} (h:zbx l=some (s,l')) (hg:zia l):l++[]=z40 s++l'/\D.fines s.ds/\s.op≠4/\s.op≠5:=by
 unfold zbx at h
 split at h
 . cases h
 rename_i m nm l1 h1
 obtain ⟨e1,n1,n2⟩:=zyw hg.1 h1;have g1:=hg.of_eq e1
 split at h
 . rename_i hs
   have e2:=zaz g1.1 aq hs
   split at h
   . cases h
   rename_i x l2 h2
   obtain ⟨e3,f3⟩:=zfx h2 (g1.tl e2);obtain ⟨rfl,rfl⟩:=vap (vab h);refine ⟨?_,zgl (zaw aq aq) aA (zd0 f3) aA zds aA zds,dp,dp⟩
   rw [vch,e1,e2,show l1.tail=tE x++l2 from e3];simp [z40,tEs,zsz]
 split at h
 . rename_i hs
   have e2:=zaz g1.1 aq hs
   split at h
   . cases h
   rename_i x l2 h2
   obtain ⟨e3,f3⟩:=zfx h2 (g1.tl e2);have g3:=(g1.tl e2).of_eq e3
   split at h
   . rename_i AA
     have e4:=zaz g3.1 aq AA
     split at h
     . rename_i Bq
       have e5:=zaz (g3.tl e4).1 aq Bq
       split at h
       . cases h
       rename_i y l3 h3
       obtain ⟨e6,f6⟩:=zfx h3 ((g3.tl e4).tl e5);obtain ⟨rfl,rfl⟩:=vap (vab h);refine ⟨?_,zgl (zaw aq aq) aA (zuz f3 f6) aA zds aA zds,dp,dp⟩
       rw [vch,e1,e2,show l1.tail=tE x++l2 from e3,e4,show l2.tail=kTk tEq :: l2.tail.tail from e5,show l2.tail.tail=tE y++l3 from e6];simp [z40,tEs,zsz]
     . cases h
   . cases h
 split at h
 . rename_i hs
   have e2:=zaz g1.1 aq hs
   split at h
   . cases h
   rename_i xs l2 h2
   obtain ⟨e3,f3,c3⟩:=zyz h2 (g1.tl e2);have CC:l1.tail.length<=4096:=(g1.tl e2).2;obtain ⟨rfl,rfl⟩:=vap (vab h);refine ⟨?_,zgl (zaw aq aq) ae f3 aA zds aA zds,dp,dp⟩
   rw [vch,e1,e2,show l1.tail=zd2 (tEs xs)++kTk tRp :: l2 from e3];simp [z40,zsz]
 . cases h
theorem zo1 {l l1 l2:List Tk} {s s':St} {r:Option (St × List Tk)} (h:zd5 r=some (s,l2)) (hr:r=some (s',l1)) (hg:zia l) (e:l=z40 s'++l1) (h4:s'.op≠4) (h5:s'.op≠5):s=s'/\l=tS s'++l2:=by
 subst hr;unfold zd5 at h;simp only at h
 split at h
 . rename_i hs
   have e1:=zaz (hg.of_eq e).1 aq hs;obtain ⟨rfl,rfl⟩:=vap (vab h);refine ⟨rfl,?_⟩;obtain ⟨op,m,nm,args,body,other⟩:=s';have NT:¬ op=4:=h4;have NR:¬ op=5:=h5;rw [e,e1];simp [z40,tS,zyy,NT,NR]
 . cases h
theorem zs0 {r:Option (St × List Tk)} {s:St} {l:List Tk} (h:zd5 r=some (s,l)):∃ s' l1,r=some (s',l1):=by
 cases r with
 | none=>cases h
 | some p=>exact ⟨p.1,p.2,rfl⟩
mutual
theorem zs1:∀ (f:Nat) (l l':List Tk) (s:St),zcm f l=some (s,l')->zia l->l=tS s++l'/\D.fines s.ds
 | 0,_,_,_,h,_=>by simp [zcm] at h
 | f + 1,l,l',s,h,hg=>by
   unfold zcm at h
   split at h
   . rename_i hs
     have e:=zaz hg.1 aq hs
     split at h
     . cases h
     rename_i x l1 h1
     obtain ⟨e1,f1⟩:=zfx h1 (hg.tl e);have g1:=(hg.tl e).of_eq e1
     split at h
     . cases h
     rename_i b l2 h2
     obtain ⟨e2,f2,c2⟩:=zd3 f _ _ _ h2 g1;have g2:=g1.of_eq e2;have k1:=g1.2
     split at h
     . rename_i AA
       have e3:=zaz g2.1 aq AA
       split at h
       . cases h
       rename_i o l3 h3
       obtain ⟨e4,f4,c4⟩:=zd3 f _ _ _ h3 (g2.tl e3);have k2:l2.tail.length<=4096:=(g2.tl e3).2
       split at h
       . cases h
       rename_i ho
       obtain ⟨rfl,rfl⟩:=vap (vab h);refine ⟨?_,zgl (zaw aq aq) aA (zd0 f1) ae f2 ae f4⟩
       have ES:¬ o=[]:=fun h0=>ho (by rw [h0];rfl)
       rw [e,show l.tail=tE x++l1 from e1,e2,e3,show l2.tail=brT (tSs o)++l3 from e4];simp [tS,tEs,zyy,ES]
     . obtain ⟨rfl,rfl⟩:=vap (vab h)
       refine ⟨?_,zgl (zaw aq aq) aA (zd0 f1) ae f2 aA zds⟩
       rw [e,show l.tail=tE x++l1 from e1,e2];simp [tS,tEs,zyy]
   split at h
   . rename_i hs
     have e:=zaz hg.1 aq hs
     split at h
     . cases h
     rename_i x l1 h1
     obtain ⟨e1,f1⟩:=zfx h1 (hg.tl e);have g1:=(hg.tl e).of_eq e1
     split at h
     . cases h
     rename_i b l2 h2
     obtain ⟨e2,f2,c2⟩:=zd3 f _ _ _ h2 g1;have k1:=g1.2;obtain ⟨rfl,rfl⟩:=vap (vab h);refine ⟨?_,zgl (zaw aq aq) aA (zd0 f1) ae f2 aA zds⟩
     rw [e,show l.tail=tE x++l1 from e1,e2];simp [tS,tEs,zyy]
   split at h
   . rename_i hs
     have e:=zaz hg.1 aq hs
     cases h1:pX l.tail with
     | none=>rw [h1] at h;cases h
     | some p=>
       obtain ⟨x,l1⟩:=p;rw [h1] at h;obtain ⟨e1,f1⟩:=zfx h1 (hg.tl e);obtain ⟨rfl,e2⟩:=zo1 h rfl hg (by rw [e,e1];simp [z40,zsz,tEs]) dp dp;exact ⟨e2,zgl (zaw aq aq) aA (zd0 f1) aA zds aA zds⟩
   split at h
   . rename_i hs
     have e:=zaz hg.1 aq hs
     cases h1:pX l.tail with
     | none=>rw [h1] at h;cases h
     | some p=>
       obtain ⟨x,l1⟩:=p;rw [h1] at h;obtain ⟨e1,f1⟩:=zfx h1 (hg.tl e);obtain ⟨rfl,e2⟩:=zo1 h rfl hg (by rw [e,e1];simp [z40,zsz,tEs]) dp dp;exact ⟨e2,zgl (zaw aq aq) aA (zd0 f1) aA zds aA zds⟩
   . obtain ⟨s',l1,hr⟩:=zs0 h
     obtain ⟨e1,f1,h4,h5⟩:=zqw hr hg;rw [vch] at e1;obtain ⟨rfl,e2⟩:=zo1 h hr hg e1 h4 h5;exact ⟨e2,f1⟩
theorem zd3:∀ (f:Nat) (l l':List Tk) (b:List St),zby f l=some (b,l')->zia l->l=brT (tSs b)++l'/\D.fines (zbs b)/\b.length<=l.length
 | 0,_,_,_,h,_=>by simp [zby] at h
 | f + 1,l,l',b,h,hg=>by
   unfold zby at h
   split at h
   . rename_i hs
     have e:=zaz hg.1 aq hs;have hl:=zaj aq hs;have k:=(hg.tl e).2;obtain ⟨e1,f1,c1⟩:=zjw f [] l.tail l' b h (hg.tl e) (by simp at k ⊢;omega) zds;refine ⟨?_,f1,by simp at c1;omega⟩
     rw [e,show l.tail=tSs b++kTk tRb :: l' from by simpa [tSs] using e1];simp [brT]
   . cases h
theorem zjw:∀ (f:Nat) (A5:List St) (l l':List Tk) (b:List St),zey f A5 l=some (b,l')->zia l->A5.length+l.length<=10000->D.fines (zbs A5)->tSs A5++l=tSs b++kTk tRb :: l'/\D.fines (zbs b)/\b.length<=A5.length+l.length
 | 0,_,_,_,_,h,_,_,_=>by simp [zey] at h
 | f + 1,A5,l,l',b,h,hg,hc,hf=>by
   unfold zey at h
   split at h
   . rename_i hs
     obtain ⟨rfl,rfl⟩:=vap (vab h);exact ⟨dC,hf,ae⟩
   split at h
   . cases h
   rename_i s l1 h1
   obtain ⟨e1,f1⟩:=zs1 f _ _ _ h1 hg;have A0:=zo9 f _ _ _ h1;obtain ⟨e2,f2,c2⟩:=zjw f (A5++[s]) l1 l' b h (hg.of_eq e1) aF (by rw [zh3,zvi];exact D.fines_append hf f1);refine ⟨?_,f2,dN⟩
   rw [← e2,zno,z5s,e1];simp
end
def z9i (b:Bool):List Tk:=if b then [kTk zc3] else []
theorem zy0 {l:List Tk} (hr:zc4 l):l=z9i (skB l zc3)++zii l:=by
 unfold z9i zii
 cases h:skB l zc3 with
 | true=>exact zaz hr aq h
 | false=>rfl
def tD (d:De):List Tk:=z9i d.pub++(if d.kind=1 then [kTk zrl,wTk d.name,kTk tEq,nTk d.n,kTk zir] else if d.kind=2 then [kTk z8u,wTk d.name,kTk zir] else [kTk zrm,wTk d.name,kTk tLs,nTk d.n,kTk tRs,kTk zir])
theorem zs2 {k n:Int} {nm:ByteArray} {p:Bool} (h1:(Lit.int .i64 k).wf=true) (h2:(Lit.int .i64 n).wf=true):D.fines (De.mk k nm p n).ds:=by
 simp only [De.ds,D.fines,D.fine];exact ⟨h1,trivial,trivial,h2,trivial⟩
theorem zs3 {l l':List Tk} {d:De} (h:zb2 l=some (d,l')) (hg:zia l):l=tD d++l'/\D.fines d.ds:=by
 have ep:=zy0 hg.1;have gp:=hg.of_eq ep;unfold zb2 at h
 split at h
 . rename_i hs
   have e:=zaz gp.1 aq hs
   split at h
   . cases h
   rename_i n l1 h1
   obtain ⟨e1,n1⟩:=zdz (gp.tl e).1 h1;have g1:=(gp.tl e).tl e1
   split at h
   . rename_i AA
     have e2:=zaz g1.1 aq AA
     split at h
     . cases h
     rename_i k l2 h2
     obtain ⟨e3,k0,k1⟩:=zsx (g1.tl e2).1 h2;have g3:=(g1.tl e2).tl e3
     split at h
     . rename_i Bq
       have e4:=zaz g3.1 aq Bq;obtain ⟨rfl,rfl⟩:=vap (vab h);refine ⟨?_,zs2 (zaw aq aq) (zaw ae ae)⟩;refine ep.trans ?_
       rw [e,show (zii l).tail=wTk n :: l1 from e1,e2,show l1.tail=nTk k :: l2 from e3,e4];simp [tD]
     . cases h
   . cases h
 split at h
 . rename_i hs
   have e:=zaz gp.1 aq hs
   split at h
   . cases h
   rename_i n l1 h1
   obtain ⟨e1,n1⟩:=zdz (gp.tl e).1 h1;have g1:=(gp.tl e).tl e1
   split at h
   . rename_i Bq
     have e4:=zaz g1.1 aq Bq;obtain ⟨rfl,rfl⟩:=vap (vab h);refine ⟨?_,zs2 (zaw aq aq) (zaw aq aq)⟩;refine ep.trans ?_
     rw [e,show (zii l).tail=wTk n :: l1 from e1,e4];simp [tD]
   . cases h
 split at h
 . rename_i hs
   have e:=zaz gp.1 aq hs
   split at h
   . cases h
   rename_i n l1 h1
   obtain ⟨e1,n1⟩:=zdz (gp.tl e).1 h1;have g1:=(gp.tl e).tl e1
   split at h
   . rename_i AA
     have e2:=zaz g1.1 aq AA
     split at h
     . cases h
     rename_i k l2 h2
     obtain ⟨e3,k0,k1⟩:=zsx (g1.tl e2).1 h2;have g3:=(g1.tl e2).tl e3
     split at h
     . rename_i Bq
       have e4:=zaz g3.1 aq Bq
       split at h
       . rename_i CU
         have e5:=zaz (g3.tl e4).1 aq CU;obtain ⟨rfl,rfl⟩:=vap (vab h);refine ⟨?_,zs2 (zaw aq aq) (zaw ae ae)⟩;refine ep.trans ?_
         rw [e,show (zii l).tail=wTk n :: l1 from e1,e2,show l1.tail=nTk k :: l2 from e3,e4,show l2.tail=kTk zir :: l2.tail.tail from e5];simp [tD]
       . cases h
     . cases h
   . cases h
 . cases h
def znp (ps:List ByteArray):List Tk:=zd2 (ps.map (fun n=>[wTk n]))
theorem zib:∀ (f:Nat) (A5:List ByteArray) (l l':List Tk) (ps:List ByteArray),zcv f A5 l=some (ps,l')->zia l->A5≠[]->znp A5++l=znp ps++kTk tRp :: l'/\ps.length<=A5.length+l.length
 | 0,_,_,_,_,h,_,_=>by simp [zcv] at h
 | f + 1,A5,l,l',ps,h,hg,Ai=>by
   unfold zcv at h
   split at h
   . rename_i hs
     have e:=zaz hg.1 aq hs;have hl:=zaj aq hs
     split at h
     . cases h
     rename_i n l1 h1
     obtain ⟨e1,_⟩:=zdz (hg.tl e).1 h1;have A0:=zbo h1;obtain ⟨e2,c2⟩:=zib f (A5++[n]) l1 l' ps h ((hg.tl e).tl e1) aA;refine ⟨?_,dN⟩;rw [← e2];unfold znp;rw [vbw,show [n].map (fun n=>[wTk n])=[[wTk n]] from rfl,zhr _ _ (by simpa using Ai),e,show l.tail=wTk n :: l1 from e1];simp
   split at h
   . rename_i hs
     obtain ⟨rfl,rfl⟩:=vap (vab h);exact ⟨dC,ae⟩
   . cases h
theorem zs4 {l l':List Tk} {ps:List ByteArray} (h:zhz l=some (ps,l')) (hg:zia l):l=znp ps++kTk tRp :: l'/\ps.length<=l.length:=by
 unfold zhz at h
 split at h
 . rename_i hs
   obtain ⟨rfl,rfl⟩:=vap (vab h);exact ⟨zaz hg.1 aq hs,aA⟩
 split at h
 . cases h
 rename_i n l1 h1
 obtain ⟨e1,_⟩:=zdz hg.1 h1;have A0:=zbo h1;obtain ⟨e2,c2⟩:=zib _ [n] l1 l' ps h (hg.tl e1) aA;exact ⟨by rw [e1,← e2];rfl,dN⟩
def z2f (t:ByteArray) (l:List ByteArray):List Tk:=l.flatMap (fun n=>[kTk t,wTk n,kTk zir])
theorem zht (t:ByteArray) (ht:0<t.size):∀ (f:Nat) (A5:List ByteArray) (l l':List Tk) (ls:List ByteArray),zcw t f A5 l=some (ls,l')->zia l->z2f t A5++l=z2f t ls++l'/\ls.length<=A5.length+l.length
 | 0,_,_,_,_,h,_=>by simp [zcw] at h
 | f + 1,A5,l,l',ls,h,hg=>by
   unfold zcw at h
   split at h
   . rename_i hs
     have e:=zaz hg.1 ht hs;have hl:=zaj ht hs
     split at h
     . cases h
     rename_i n l1 h1
     obtain ⟨e1,_⟩:=zdz (hg.tl e).1 h1;have A0:=zbo h1;have g1:=(hg.tl e).tl e1
     split at h
     . rename_i AA
       have e2:=zaz g1.1 aq AA;have Ch:=zaj aq AA;obtain ⟨e3,c3⟩:=zht t ht f (A5++[n]) l1.tail l' ls h (g1.tl e2);refine ⟨?_,by simp at c3 Ch ⊢;omega⟩;rw [← e3,e,show l.tail=wTk n :: l1 from e1]
       conv=>lhs;rw [e2]
       simp [z2f]
     . cases h
   . obtain ⟨rfl,rfl⟩:=vap (vab h)
     exact ⟨rfl,ae⟩
def tP (p:Pr):List Tk:=z9i p.pub++kTk z6s :: wTk p.name :: kTk tLp :: (znp p.params++kTk tRp :: (z2f zek p.locals++brT (tSs p.body)))
theorem zic:∀ (l:List ByteArray),D.fines (zak l)
 | []=>zdc
 | x :: r=>by
   show D.fines (.str x :: zak r);simp only [D.fines,D.fine];exact ⟨trivial,zic r⟩
theorem z5t {nm:ByteArray} {pb:Bool} {ps ls:List ByteArray} {b:List St} (h1:ps.length<=10000) (h2:ls.length<=10000) (h3:b.length<=10000) (h4:D.fines (zbs b)):D.fines (Pr.mk nm pb ps ls b).ds:=by
 simp only [Pr.ds,D.fines,D.fine];refine ⟨trivial,trivial,⟨?_,?_,zic _⟩,⟨?_,?_,zic _⟩,⟨?_,?_,h4⟩,trivial⟩
 . simp [zak]
 . simp [zak];omega
 . simp [zak]
 . simp [zak];omega
 . rw [zen];omega
 . rw [zen];omega
theorem zs5 {l l':List Tk} {p:Pr} (h:zfo l=some (p,l')) (hg:zia l):l=tP p++l'/\D.fines p.ds:=by
 have ep:=zy0 hg.1;have gp:=hg.of_eq ep;unfold zfo at h
 split at h
 . rename_i hs
   have e:=zaz gp.1 aq hs
   split at h
   . cases h
   rename_i n l1 h1
   obtain ⟨e1,n1⟩:=zdz (gp.tl e).1 h1;have g1:=(gp.tl e).tl e1
   split at h
   . rename_i AA
     have e2:=zaz g1.1 aq AA;have g2:=g1.tl e2
     split at h
     . cases h
     rename_i ps l2 h2
     obtain ⟨e3,c3⟩:=zs4 h2 g2;have Ss:=g2.of_eq e3;have g3:zia l2:=Ss.tl rfl
     split at h
     . cases h
     rename_i ls l3 h3
     obtain ⟨e4,c4⟩:=zht zek aq _ [] _ _ _ h3 g3
     have KF:l2=z2f zek ls++l3:=by simpa [z2f] using e4
     have g4:=g3.of_eq KF
     split at h
     . cases h
     rename_i b l4 h4
     obtain ⟨e5,f5,c5⟩:=zd3 _ _ _ _ h4 g4;obtain ⟨rfl,rfl⟩:=vap (vab h);have k2:l1.tail.length<=4096:=g2.2;have k3:=g3.2;have k4:=g4.2;refine ⟨?_,z5t ae (by simp at c4;omega) ae f5⟩;refine ep.trans ?_
     rw [e,show (zii l).tail=wTk n :: l1 from e1,e2,show l1.tail=znp ps++kTk tRp :: l2 from e3,KF,e5];simp [tP]
   . cases h
 . cases h
theorem zjx:∀ (f:Nat) (A5:List De) (l l':List Tk) (ds:List De),zfp f A5 l=some (ds,l')->zia l->D.fines (zku A5)->A5.flatMap tD++l=ds.flatMap tD++l'/\D.fines (zku ds)/\ds.length<=A5.length+l.length
 | 0,_,_,_,_,h,_,_=>by simp [zfp] at h
 | f + 1,A5,l,l',ds,h,hg,hf=>by
   unfold zfp at h
   split at h
   . split at h
     . cases h
     rename_i d l1 h1
     obtain ⟨e1,f1⟩:=zs3 h1 hg;have A0:=zu9 h1;obtain ⟨e2,f2,c2⟩:=zjx f (A5++[d]) l1 l' ds h (hg.of_eq e1) (by rw [show zku (A5++[d])=zku A5++d.ds from by simp [zku]];exact D.fines_append hf f1);refine ⟨?_,f2,dN⟩
     rw [← e2,e1];simp
   . obtain ⟨rfl,rfl⟩:=vap (vab h)
     exact ⟨rfl,hf,ae⟩
theorem zjy:∀ (f:Nat) (A5:List Pr) (l l':List Tk) (ps:List Pr),zfq f A5 l=some (ps,l')->zia l->D.fines (zio A5)->A5.flatMap tP++l=ps.flatMap tP++kTk zto :: l'/\D.fines (zio ps)/\ps.length<=A5.length+l.length
 | 0,_,_,_,_,h,_,_=>by simp [zfq] at h
 | f + 1,A5,l,l',ps,h,hg,hf=>by
   unfold zfq at h
   split at h
   . rename_i hs
     obtain ⟨rfl,rfl⟩:=vap (vab h);exact ⟨dC,hf,ae⟩
   . split at h
     . cases h
     rename_i p l1 h1
     obtain ⟨e1,f1⟩:=zs5 h1 hg;have A0:=zvb h1;obtain ⟨e2,f2,c2⟩:=zjy f (A5++[p]) l1 l' ps h (hg.of_eq e1) (by rw [show zio (A5++[p])=zio A5++p.ds from by simp [zio]];exact D.fines_append hf f1);refine ⟨?_,f2,dN⟩
     rw [← e2,e1];simp
def tM (m:Mo):List Tk:=kTk zpm :: wTk m.name :: kTk tLb :: (z2f zvo m.uses++(m.decls.flatMap tD++(m.procs.flatMap tP++kTk zto :: (brT (tSs m.main)++[kTk tRb]))))
structure Fine (m:Mo):Prop where
 uses:m.uses.length<=10000
 decls:m.decls.length<=10000
 procs:m.procs.length<=10000
 main:m.main.length<=10000
 fd:D.fines (zku m.decls)
 fp:D.fines (zio m.procs)
 fm:D.fines (zbs m.main)
theorem zo2 {l l':List Tk} {m:Mo} (h:zci l=some (m,l')) (hg:zia l):l=tM m++l'/\Fine m:=by
 unfold zci at h
 split at h
 . rename_i hs
   have e:=zaz hg.1 aq hs
   split at h
   . cases h
   rename_i n l1 h1
   obtain ⟨e1,n1⟩:=zdz (hg.tl e).1 h1;have g1:=(hg.tl e).tl e1
   split at h
   . rename_i AA
     have e2:=zaz g1.1 aq AA;have g2:=g1.tl e2;have k2:l1.tail.length<=4096:=g2.2
     split at h
     . cases h
     rename_i us l2 h2
     obtain ⟨e3,c3⟩:=zht zvo aq _ [] _ _ _ h2 g2
     have Q8:l1.tail=z2f zvo us++l2:=by simpa [z2f] using e3
     have g3:=g2.of_eq Q8;have k3:=g3.2
     split at h
     . cases h
     rename_i ds l3 h3
     obtain ⟨e4,f4,c4⟩:=zjx _ [] _ _ _ h3 g3 zdc
     have KF:l2=ds.flatMap tD++l3:=by simpa using e4
     have g4:=g3.of_eq KF;have k4:=g4.2
     split at h
     . cases h
     rename_i ps l4 h4
     obtain ⟨e5,f5,c5⟩:=zjy _ [] _ _ _ h4 g4 zdc
     have Q7:l3=ps.flatMap tP++kTk zto :: l4:=by simpa using e5
     have g5:zia l4:=(g4.of_eq Q7).tl rfl;have k5:=g5.2
     split at h
     . cases h
     rename_i b l5 h5
     obtain ⟨e6,f6,c6⟩:=zd3 _ _ _ _ h5 g5;have g6:=g5.of_eq e6
     split at h
     . rename_i Bq
       have e7:=zaz g6.1 aq Bq;obtain ⟨rfl,rfl⟩:=vap (vab h);refine ⟨?_,⟨by show us.length<=10000;simp at c3 k2;omega,by show ds.length<=10000;simp at c4;omega,by show ps.length<=10000;simp at c5;omega,by show b.length<=10000;omega,f4,f5,f6⟩⟩
       rw [e,show l.tail=wTk n :: l1 from e1,e2,Q8,KF,Q7,e6,e7];simp [tM]
     . cases h
   . cases h
 . cases h
inductive exOk:Ex->Prop
 | mk {op n:Int} {m nm:ByteArray} {args:List Ex} (h1:exB op=true) (h2:zc5 (exS op) m nm=true) (h3:nOk (exS op) n=true) (h4:zbd (exS op) args.length=true) (h5:∀ a ∈ args,exOk a):exOk (.mk op n m nm args)
theorem z72:∀ (k:Nat) (l:List Ex),zbe k l=true->zap k l=false->zbk k l=true->∀ x ∈ l,exOk x
 | 0,l,_,h2,_,x,hx=>by
   simp [zap] at h2;rw [h2] at hx;cases hx
 | k+1,l,h1,h2,h3,x,hx=>by
   simp only [zbe,vas] at h1;simp only [zap,vat] at h2;simp only [zbk,vas] at h3;have a1:=h1 x hx;have a3:=h3 x hx
   have a2:zap k x.args=false:=by
    have:=h2.2;rw [vca] at this;simpa using this x hx
   simp only [vac] at a1 a3;obtain ⟨op,n,m,nm,args⟩:=x;exact .mk a1.1 a3.1 a3.2.1 a3.2.2.1 (z72 k args a1.2 a2 a3.2.2.2)
theorem zy1 {α:Type} {l:List α} (h:decide (0<l.length)=false):l=[]:=vam (by have:=of_decide_eq_false h;omega)
inductive stOk:St->Prop
 | mk {op:Int} {m nm:ByteArray} {args:List Ex} {body other:List St} (h1:stB op=true) (h2:zc5 (stS op) m nm=true) (h3:zbd (stS op) args.length=true) (h4:∀ a ∈ args,exOk a) (h5:(stS op).body=true\/body=[]) (h6:(stS op).other=true\/other=[]) (h7:∀ s ∈ body,stOk s) (h8:∀ s ∈ other,stOk s):stOk (.mk op m nm args body other)
theorem z5u:∀ (k:Nat) (l:List St),zat k l=true->zah k l=false->zau k l=true->∀ s ∈ l,stOk s
 | 0,l,_,h2,_,x,hx=>by simp [zah] at h2
 | k + 1,l,h1,h2,h3,x,hx=>by
   simp only [zat,vas] at h1;simp only [zah,vat] at h2;simp only [zau,vas] at h3;have a1:=h1 x hx;have a3:=h3 x hx;have a2:=h2.2;rw [vca] at a2;have a2:=a2 x hx;simp only [vac] at a1 a3;simp only [vcv,vat,vcz] at a2;obtain ⟨op,m,nm,args,body,other⟩:=x
   have hb:(stS op).body=true\/body=[]:=by
    have:=a3.2.2.2.1;simp [St.op,St.body] at this;exact this
   have ho:(stS op).other=true\/other=[]:=by
    have:=a3.2.2.2.2.1;simp [St.op,St.other] at this;exact this
   have S1:body=[]\/zah k body=false:=by
    rcases a2.2.1 with h | h
    . left
      simp [St.op,St.body] at h;exact zy1 h.2
    . exact Or.inr h
   have Rp:other=[]\/zah k other=false:=by
    rcases a2.2.2 with h | h
    . left
      exact zy1 h
    . exact Or.inr h
   refine .mk a1.1 a3.1 a3.2.1 (z72 6 args a1.2.1 a2.1 a3.2.2.1) hb ho ?_ ?_
   . rcases S1 with h | h
     . rw [h];intro s hs;cases hs
     . exact z5u k body a1.2.2.1 h a3.2.2.2.2.2.1
   . rcases Rp with h | h
     . rw [h];intro s hs;cases hs
     . exact z5u k other a1.2.2.2 h a3.2.2.2.2.2.2
structure moOk (m:Mo):Prop where
 name:nameOk m.name=true
 uses:∀ u ∈ m.uses,nameOk u=true
 decls:∀ d ∈ m.decls,nameOk d.name=true/\zej d=true/\1<=d.kind/\d.kind<=3
 procs:∀ p ∈ m.procs,nameOk p.name=true/\(∀ n ∈ p.params,nameOk n=true)/\(∀ n ∈ p.locals,nameOk n=true)/\(∀ s ∈ p.body,stOk s)
 main:∀ s ∈ m.main,stOk s
theorem zu0 {m:Mo} (h:m.err=0):m.kinds=true/\m.many=false/\m.form=true:=by
 unfold Mo.err at h
 cases hk:m.kinds with
 | false=>rw [hk] at h;simp at h
 | true=>
   rw [hk] at h
   cases hm:m.many with
   | true=>rw [hm] at h;simp at h
   | false=>
     rw [hm] at h
     cases hf:m.form with
     | false=>rw [hf] at h;simp at h
     | true=>exact ⟨rfl,rfl,rfl⟩
theorem z9w {m:Mo} (h:m.err=0):moOk m:=by
 obtain ⟨hk,hm,hf⟩:=zu0 h;unfold Mo.kinds at hk;unfold Mo.many at hm;unfold Mo.form at hf;simp only [vac,vas,decide_eq_true_eq] at hk hf;simp only [vat] at hm;have Py:=hm.2.2.2.2;rw [vca] at Py
 have body:∀ b ∈ m.bodies,∀ s ∈ b,stOk s:=fun b hb=>z5u 6 b (hk.2 b hb) (by simpa using Py b hb) (hf.2.2.2.2 b hb)
 exact {
  name:=hf.1
  uses:=hf.2.1
  decls:=fun d hd=>⟨(hf.2.2.1 d hd).1,(hf.2.2.1 d hd).2,hk.1 d hd⟩
  procs:=fun p hp=>⟨(hf.2.2.2.1 p hp).1,(hf.2.2.2.1 p hp).2.1,(hf.2.2.2.1 p hp).2.2,body p.body (by unfold Mo.bodies;simp;exact Or.inl ⟨p,hp,rfl⟩)⟩
  main:=body m.main (by unfold Mo.bodies;simp) }
theorem zc4.append {a b:List Tk} (h:zc4 a) (k:zc4 b):zc4 (a++b):=⟨by rw [vbp,h.1,k.1];rfl,by rw [vbp,h.2,k.2];rfl⟩
theorem zc4.cons {t:Tk} {b:List Tk} (h:zc4 [t]) (k:zc4 b):zc4 (t :: b):=zc4.append (a:=[t]) h k
theorem zc4.nil:zc4 []:=⟨rfl,rfl⟩
end Go.Proofs.YtndkhgakfodldaaGreatDoor
