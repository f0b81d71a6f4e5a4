import Derived.Test.YtndkhgakfodldaaGreatDoorStep
import Derived.Test.YtndkhgakfodldaaGreatDoorPj
namespace Go.Proofs.YtndkhgakfodldaaGreatDoor
set_option maxRecDepth 100000
set_option maxHeartbeats 400000
open Go.RowKit
theorem zz2 (s:ByteArray) (w:World) (hs:s.size<=maxLen) :
 Calls Tryz.prog 114 #[.string s] w fun e w'=>∃ a cap,e = .returned (.tuple #[.slice a (lexT s).length cap,.int .i64 (lexE s)])/\zco w' a (lexT s)/\Below w.heap.size w w':=by
 unfold maxLen at hs
 by_cases hlong:4096<s.size
 . have HE:Hid (lexT s=[]/\lexE s=2):=zxi hlong
   go_enter Tryz.func114,Tryz.ntmps114;go_wp2_with fail;go_ret2;exact ⟨none,0,by rw [HE.out.1,HE.out.2];rfl,by rw [HE.out.1];exact Or.inl rfl,Below.refl _ _⟩
 . have HC:Hid (Calls Tryz.prog 157 #[.string s] w fun e w'=>∃ a cap,e = .returned (.tuple #[.slice a (lexT s).length cap,.int .i64 (lexE s)])/\zco w' a (lexT s)/\Below w.heap.size w w'):=zsu s w (by omega)
   generalize lexT s=ts at *;generalize lexE s=n at *;go_enter Tryz.func114,Tryz.ntmps114;go_wp2_with fail;refine HC.out.mono ?_;rintro e w2 ⟨a,cap,rfl,hT,hb⟩;have HT:Hid (zco w2 a ts):=hT;clear hT HC;go_wp2_with fail;go_ret2;exact ⟨a,cap,rfl,HT.out,hb⟩
def z1t:Nat->ByteArray->Nat->Option (List Tk)
 | 0,s,a=>if a<s.size then none else some []
 | f + 1,s,a=>
   if h:a<s.size then
    if zd1 s[a] then z1t f s (a+Lx.pieceN s a)
    else match zcn (s.extract a (a+Lx.pieceN s a)) with
     | none=>none
     | some t=>(z1t f s (a+Lx.pieceN s a)).map (t :: ·)
   else some []
theorem zum:∀ (f:Nat) (s:ByteArray) (a:Nat),s.size - a<=f->z1t f s a=zcu s a
 | 0,s,a,h=>by rw [ziw s a (by omega)];unfold z1t;rw [if_neg (by omega)]
 | f+1,s,a,h=>by
   have hp:=Lx.zfl s a;have ih:=zum f s (a+Lx.pieceN s a) (by omega);rw [zcu,z1t,ih]
   cases zcn (s.extract a (a+Lx.pieceN s a))<;>rfl
def zgu (l:L8):Nat:=if Lx.z1a l=0 then 1 else Lx.z1a l
theorem zkq (l:L8):0<zgu l:=by unfold zgu;split<;>omega
def zti:L8->Option (List Tk)
 | []=>some []
 | c :: l=>
   if zd1 c then zti ((c :: l).drop (zgu (c :: l)))
   else match zcn (strOf ((c :: l).take (zgu (c :: l)))) with
    | none=>none
    | some t=>(zti ((c :: l).drop (zgu (c :: l)))).map (t :: ·)
termination_by l=>l.length
decreasing_by
 all_goals have:=zkq (c :: l);simp only [vbs,vat];omega
theorem zo6 (s:ByteArray) (a n:Nat):s.extract a (a+n)=strOf ((s.data.toList.drop a).take n):=by
 rw [← zr9,strOf_back]
theorem zsb:∀ (n:Nat) (s:ByteArray) (a:Nat),s.size - a=n->zcu s a=zti (s.data.toList.drop a):=by
 intro n
 induction n using Nat.strongRecOn with
 | _ n ih=>
   intro s a hn
   by_cases h:a<s.size
   . have hd:=zuj s a h
     have hp:Lx.pieceN s a=zgu (s.data.toList.drop a):=rfl;have hpos:=Lx.zfl s a;have ih':=ih (s.size - (a+Lx.pieceN s a)) (by omega) s (a+Lx.pieceN s a) rfl
     have hdd:s.data.toList.drop (a+Lx.pieceN s a)=(s.data.toList.drop a).drop (Lx.pieceN s a):=by rw [List.drop_drop]
     cases hb:zd1 s[a] with
     | true=>
       rw [zix s a h hb,ih',hdd,hp,hd,zti,if_pos hb]
     | false=>
       have he:=zo6 s a (Lx.pieceN s a)
       cases ht:zcn (s.extract a (a+Lx.pieceN s a)) with
       | none=>
         rw [zko s a h hb ht];rw [he,hp,hd] at ht;rw [hd,zti,if_neg (by simp [hb]),ht]
       | some t=>
         rw [zkp s a t h hb ht,ih',hdd];rw [he,hp,hd] at ht;rw [hp,hd,zti,if_neg (by simp [hb]),ht]
   . rw [ziw s a h,vcg (by rw [Lx.zav];omega),zti]
theorem zsc (s:ByteArray):zcu s 0=zti s.data.toList:=by
 have:=zsb _ s 0 rfl;rwa [List.drop_zero] at this
theorem zo7 {s:ByteArray} {t:Tk} (h:zcn s=some t):zdj t=true/\Tk.okB t=true:=by
 unfold zcn at h
 split at h
 . rename_i hs
   cases h;exact ⟨rfl,by unfold Tk.okB;simp [hs]⟩
 . split at h
   . rename_i hn
     cases h;exact ⟨rfl,by unfold Tk.okB;simp [hn]⟩
   . split at h
     . rename_i hk
       cases h;refine ⟨rfl,?_⟩
       have hv:Lx.valL s.data.toList<=1099511627775:=by unfold Lx.zfy at hk;simp at hk;exact hk.2
       unfold Tk.okB;rw [vax];simp;omega
     . cases h
theorem zsd:∀ (n:Nat) (l:L8) (ts:List Tk),l.length=n->zti l=some ts->zci ts/\ts.length<=l.length:=by
 intro n
 induction n using Nat.strongRecOn with
 | _ n ih=>
   intro l ts hn h
   cases l with
   | nil=>rw [zti] at h;cases h;exact ⟨⟨rfl,rfl⟩,vaa _⟩
   | cons c r=>
     have hpos:=zkq (c :: r)
     have hlen:((c :: r).drop (zgu (c :: r))).length<n:=by rw [vbs];simp at hn ⊢;omega
     rw [zti] at h
     split at h
     . obtain ⟨h1,h2⟩:=ih _ hlen _ ts rfl h
       exact ⟨h1,by omega⟩
     . cases ht:zcn (strOf ((c :: r).take (zgu (c :: r)))) with
       | none=>rw [ht] at h;cases h
       | some t=>
         rw [ht] at h
         cases hr:zti ((c :: r).drop (zgu (c :: r))) with
         | none=>rw [hr] at h;cases h
         | some us=>
           rw [hr] at h;cases h;obtain ⟨h1,h2⟩:=ih _ hlen _ us rfl hr;obtain ⟨hk,ho⟩:=zo7 ht;refine ⟨⟨?_,?_⟩,?_⟩
           . rw [vcn,hk,h1.1];rfl
           . rw [vcn,ho,h1.2];rfl
           . simp only [vat] at *;omega
def kTk (t:ByteArray):Tk:=⟨if Lx.zcd t.data.toList then 1 else 3,0,t⟩
def wTk (t:ByteArray):Tk:=⟨1,0,t⟩
def nTk (n:Int):Tk:=⟨2,n,⟨#[]⟩⟩
theorem zun {l:L8} (h:Lx.zh8 l=true):Lx.zcd l=false:=by
 match l,h with
 | [c],h=>
   have h':Lx.signs.contains c=true:=h
   have key:∀ c ∈ Lx.signs,Lx.zcd [c]=false:=by decide
   exact key c (vcj.1 h')
theorem zci.of_app {a b:List Tk} (h:zci (a++b)):zci b:=by
 obtain ⟨h1,h2⟩:=h;rw [vbh,vae] at h1 h2;exact ⟨h1.2,h2.2⟩
theorem zci.head {t:Tk} {b:List Tk} (h:zci (t :: b)):zdj t=true/\Tk.okB t=true:=by
 obtain ⟨h1,h2⟩:=h;rw [vcn,vae] at h1 h2;exact ⟨h1.1,h2.1⟩
theorem zci.of_eq {a b c:List Tk} (h:zci a) (e:a=b++c):zci c:=by rw [e] at h;exact h.of_app
theorem zkr {s t:ByteArray} (h:s.toList=t.toList):s=t:=by
 rw [vax,vax] at h;exact ByteArray.ext (Array.ext' h)
theorem zau {l:List Tk} {t:ByteArray} (hr:zci l) (ht:0<t.size) (h:skB l t=true):l=kTk t :: l.tail:=by
 cases l with
 | nil=>exact absurd rfl (ztt ht h)
 | cons x r=>
   obtain ⟨hk,ho⟩:=hr.head;obtain ⟨k,n,s⟩:=x;have hs:s=t:=zkr (beq_iff_eq.1 h);subst hs;show Tk.mk k n s :: r=kTk s :: r
   have hne:s.toList.isEmpty=false:=by
    cases he:s.toList.isEmpty with
    | false=>rfl
    | true=>
      rw [vax] at he;have h1:=Lx.zav s;rw [List.isEmpty_iff.1 he] at h1;simp at h1;omega
   unfold zdj at hk;simp only [vae,decide_eq_true_eq] at hk;unfold Tk.okB at ho
   have h123:k=1\/k=2\/k=3:=by omega
   rcases h123 with rfl | rfl | rfl
   . simp at ho
     unfold kTk
     rw [ho.1,ho.2];rfl
   . simp [hne] at ho
   . simp at ho
     unfold kTk
     rw [ho.1,zun ho.2];rfl
theorem zxj (s:ByteArray):zlm s=zn0 s:=by
 unfold zlm zn0;rw [vax];show zz0.any _=kept.contains _;rw [vcs,vdr,vcj]
 constructor
 . rintro ⟨x,hx,h⟩
   rw [beq_iff_eq.1 h];exact hx
 . intro h
   exact ⟨_,h,beq_self_eq_true _⟩
theorem zc1 {l l':List Tk} {a:ByteArray} (hr:zci l) (h:zct l=some (a,l')):l=wTk a :: l'/\nameOk a=true:=by
 unfold zct at h
 split at h
 . rename_i hk
   obtain ⟨rfl,rfl⟩:=vak (vab h);simp only [vae,beq_iff_eq,Bool.not_eq_true'] at hk
   cases l with
   | nil=>exact absurd hk.1 (by decide)
   | cons x r=>
     obtain ⟨_,ho⟩:=hr.head;obtain ⟨k,n,s⟩:=x;have e1:k=1:=hk.1;have e2:zlm s=false:=hk.2;subst e1;unfold Tk.okB at ho;simp at ho;have e3:n=0:=ho.1;subst e3;refine ⟨rfl,?_⟩;show nameOk s=true;unfold nameOk
     rw [← zxj,e2,ho.2];rfl
 . cases h
theorem zo8 {l l':List Tk} {a:Int} (hr:zci l) (h:pNum l=some (a,l')):l=nTk a :: l'/\0<=a/\a<=1099511627775:=by
 unfold pNum at h
 split at h
 . rename_i hk
   obtain ⟨rfl,rfl⟩:=vak (vab h)
   cases l with
   | nil=>exact absurd hk (by decide)
   | cons x r=>
     obtain ⟨_,ho⟩:=hr.head;obtain ⟨k,n,s⟩:=x;have e1:k=2:=hk;subst e1;unfold Tk.okB at ho;simp at ho
     have e2:s=⟨#[]⟩:=by
      apply zkr
      rw [ho.1,vax]
     subst e2;exact ⟨rfl,ho.2⟩
 . cases h
def zzg (m n:ByteArray):List Tk:=if m.size=0 then [wTk n] else [wTk m,kTk zzz,wTk n]
theorem zxk {s:ByteArray} (h:nameOk s=true):0<s.size:=by
 rcases vco s.size with h0 | h0
 . exfalso
   have:s.data.toList=[]:=vam (by rw [Lx.zav];exact h0);unfold nameOk at h;rw [this] at h;simp [Lx.zcd,Lx.zl6] at h
 . exact h0
theorem zuo {l l':List Tk} {m n:ByteArray} (hr:zci l) (h:ztg l=some ((m,n),l')):l=zzg m n++l'/\nameOk n=true/\(m.size=0\/nameOk m=true):=by
 unfold ztg at h
 split at h
 . cases h
 rename_i a l1 h1
 obtain ⟨e1,n1⟩:=zc1 hr h1;have r1:zci l1:=hr.of_eq (b:=[wTk a]) e1
 split at h
 . rename_i hs
   have e2:=zau r1 (by decide) hs
   split at h
   . cases h
   rename_i b l2 h2
   obtain ⟨e3,n3⟩:=zc1 (r1.of_eq (b:=[kTk zzz]) e2) h2;obtain ⟨h3,rfl⟩:=vak (vab h);obtain ⟨rfl,rfl⟩:=vak h3;refine ⟨?_,n3,Or.inr n1⟩;unfold zzg
   rw [if_neg (by have:=zxk n1;omega),e1,e2,show l1.tail=wTk b :: l2 from e3];rfl
 . obtain ⟨h3,rfl⟩:=vak (vab h)
   obtain ⟨rfl,rfl⟩:=vak h3;exact ⟨e1,n1,Or.inl rfl⟩
def z2u (op:Int):Tk:=kTk (opTexts.getD (op - 7).toNat ⟨#[]⟩)
def zc7:List (List Tk)->List Tk
 | []=>[]
 | [x]=>x
 | x :: y :: r=>x++kTk zww :: zc7 (y :: r)
def exTok (op n:Int) (m nm:ByteArray) (xs:List (List Tk)):List Tk:=
 if op=1 then [nTk n] else if op=2 then [kTk tIn] else if op=3 then zzg m nm
 else if op=4 then zzg m nm++kTk tLs :: (xs.getD 0 []++[kTk tRs])
 else if op=5 then zzg m nm++kTk tLp :: (zc7 xs++[kTk tRp])
 else if op=6 then kTk z1h :: xs.getD 0 []
 else kTk tLp :: (xs.getD 0 []++z2u op :: (xs.getD 1 []++[kTk tRp]))
mutual
def tE:Ex->List Tk
 | .mk op n m nm args=>exTok op n m nm (tEs args)
def tEs:List Ex->List (List Tk)
 | []=>[]
 | x :: r=>tE x :: tEs r
end
theorem zks:∀ (a b:List Ex),tEs (a++b)=tEs a++tEs b
 | [],b=>by simp [tEs]
 | x :: r,b=>by simp [tEs,zks r b]
theorem zup:∀ (a:List Ex),(tEs a).length=a.length
 | []=>by simp [tEs]
 | x :: r=>by simp [tEs,zup r]
theorem zf8:∀ (a:List (List Tk)) (x:List Tk),a≠[]->zc7 (a++[x])=zc7 a++kTk zww :: x
 | [],_,h=>absurd rfl h
 | [y],x,_=>by simp [zc7]
 | y :: z :: r,x,_=>by
   have:=zf8 (z :: r) x (by simp);show y++kTk zww :: zc7 ((z :: r)++[x])=(y++kTk zww :: zc7 (z :: r))++kTk zww :: x
   rw [this];simp
theorem zas {n:Int} (h0 : -9223372036854775808<=n) (h1:n<=9223372036854775807):(Lit.int .i64 n).wf=true:=by
 have e1:IntKind.i64.min = -9223372036854775808:=by decide
 have e2:IntKind.i64.max=9223372036854775807:=by decide
 simp [Lit.wf,e1,e2];omega
theorem zgv:∀ (l:List Ex),(zbj l).length=5*l.length
 | []=>by simp [zbj]
 | x :: r=>by
   have:=x.ds_len
   simp [zbj,zgv r,this];omega
theorem zdk:∀ (l:List St),(zbk l).length=6*l.length
 | []=>by simp [zbk]
 | x :: r=>by
   have:=x.ds_len
   simp [zbk,zdk r,this];omega
theorem zf9 {op n:Int} {m nm:ByteArray} {args:List Ex} (h1:(Lit.int .i64 op).wf=true) (h2:(Lit.int .i64 n).wf=true) (h3:args.length<=10000) (h4:D.fines (zbj args)):D.fines (Ex.mk op n m nm args).ds:=by
 unfold Ex.ds;simp only [D.fines,D.fine];refine ⟨h1,h2,trivial,trivial,⟨?_,?_,h4⟩,trivial⟩
 . rw [zgv];omega
 . rw [zgv];omega
theorem zcp:D.fines []:=by unfold D.fines;trivial
theorem zc2 {x:Ex} (h:D.fines x.ds):D.fines (zbj [x]):=by rw [zif];exact h
theorem zqv {x y:Ex} (h:D.fines x.ds) (k:D.fines y.ds):D.fines (zbj [x,y]):=by
 show D.fines (x.ds++(y.ds++[]));exact D.fines_append h (D.fines_append k zcp)
theorem zxl {l:List Tk} {k:Nat} (hr:zci l) (h:zts l=some k):l=z2u (7+k) :: l.tail/\k<9:=by
 unfold zts at h;obtain ⟨hk,h2,_⟩:=vbi.1 h
 have hp:0<(opTexts[k]).size:=by
  have:∀ x ∈ opTexts,0<x.size:=by decide
  exact this _ (vah hk)
 refine ⟨?_,hk⟩;have e:=zau hr hp h2;unfold z2u;rw [show ((7:Int)+(k:Int) - 7).toNat=k from by omega,var,vaj hk];exact e
def zgw (l:List Tk):Prop:=zci l/\l.length<=4096
theorem zgw.of_eq {a b c:List Tk} (h:zgw a) (e:a=b++c):zgw c:=⟨h.1.of_eq e,by have:=h.2;rw [e,vag] at this;omega⟩
theorem zgw.tl {a c:List Tk} {t:Tk} (h:zgw a) (e:a=t :: c):zgw c:=h.of_eq (b:=[t]) e
mutual
theorem zb9:∀ (f:Nat) (l l':List Tk) (x:Ex),zbf f l=some (x,l')->zgw l->l=tE x++l'/\D.fines x.ds
 | 0,_,_,_,h,_=>by simp [zbf] at h
 | f + 1,l,l',x,h,hg=>by
   unfold zbf at h
   split at h
   . rename_i hk
     obtain ⟨rfl,rfl⟩:=vak (vab h)
     have hn:pNum l=some ((hd l).n,l.tail):=by unfold pNum;rw [if_pos hk]
     obtain ⟨e,h0,h1⟩:=zo8 hg.1 hn;exact ⟨by simpa [tE,exTok] using e,zf9 (zas (by decide) (by decide)) (zas (by omega) (by omega)) (by simp) (by unfold zbj;exact zcp)⟩
   split at h
   . rename_i hs
     obtain ⟨rfl,rfl⟩:=vak (vab h);exact ⟨by simpa [tE,exTok] using zau hg.1 (by decide) hs,zf9 (zas (by decide) (by decide)) (zas (by decide) (by decide)) (by simp) (by unfold zbj;exact zcp)⟩
   split at h
   . rename_i hs
     have e:=zau hg.1 (by decide) hs
     split at h
     . cases h
     rename_i y l1 h1
     obtain ⟨rfl,rfl⟩:=vak (vab h);obtain ⟨e1,f1⟩:=zb9 f _ _ _ h1 (hg.tl e);refine ⟨?_,zf9 (zas (by decide) (by decide)) (zas (by decide) (by decide)) (by simp) (zc2 f1)⟩
     rw [e,show l.tail=tE y++l1 from e1];simp [tE,tEs,exTok]
   split at h
   . rename_i hs
     have e:=zau hg.1 (by decide) hs;obtain ⟨e1,f1⟩:=zo9 f _ _ _ h (hg.tl e);exact ⟨e.trans e1,f1⟩
   split at h
   . cases h
   rename_i m nm l1 h1
   obtain ⟨e1,n1,n2⟩:=zuo hg.1 h1;have g1:=hg.of_eq e1
   split at h
   . rename_i hs
     have e2:=zau g1.1 (by decide) hs
     split at h
     . cases h
     rename_i y l2 h2
     obtain ⟨e3,f3⟩:=zb9 f _ _ _ h2 (g1.tl e2)
     split at h
     . rename_i hs2
       have e4:=zau ((g1.tl e2).of_eq e3).1 (by decide) hs2;obtain ⟨rfl,rfl⟩:=vak (vab h);refine ⟨?_,zf9 (zas (by decide) (by decide)) (zas (by decide) (by decide)) (by simp) (zc2 f3)⟩
       rw [e1,e2,show l1.tail=tE y++l2 from e3,e4];simp [tE,tEs,exTok]
     . cases h
   split at h
   . rename_i hs
     have e2:=zau g1.1 (by decide) hs
     split at h
     . cases h
     rename_i ys l2 h2
     obtain ⟨e3,f3,c3⟩:=ziz f _ _ _ h2 (g1.tl e2);obtain ⟨rfl,rfl⟩:=vak (vab h);have hl3:l1.tail.length<=4096:=(g1.tl e2).2;refine ⟨?_,zf9 (zas (by decide) (by decide)) (zas (by decide) (by decide)) (by omega) f3⟩
     rw [e1,e2,show l1.tail=zc7 (tEs ys)++kTk tRp :: l2 from e3];simp [tE,exTok]
   . obtain ⟨rfl,rfl⟩:=vak (vab h)
     refine ⟨?_,zf9 (zas (by decide) (by decide)) (zas (by decide) (by decide)) (by simp) (by unfold zbj;exact zcp)⟩
     rw [e1];simp [tE,exTok]
theorem zo9:∀ (f:Nat) (l l':List Tk) (x:Ex),ze1 f l=some (x,l')->zgw l->kTk tLp :: l=tE x++l'/\D.fines x.ds
 | 0,_,_,_,h,_=>by simp [ze1] at h
 | f + 1,l,l',x,h,hg=>by
   unfold ze1 at h
   split at h
   . cases h
   rename_i a l1 h1
   obtain ⟨e1,f1⟩:=zb9 f _ _ _ h1 hg;have g1:=hg.of_eq e1
   split at h
   . cases h
   rename_i k hk
   obtain ⟨e2,k9⟩:=zxl g1.1 hk
   split at h
   . cases h
   rename_i b l2 h2
   obtain ⟨e3,f3⟩:=zb9 f _ _ _ h2 (g1.tl e2)
   split at h
   . rename_i hs
     have e4:=zau ((g1.tl e2).of_eq e3).1 (by decide) hs;obtain ⟨rfl,rfl⟩:=vak (vab h);refine ⟨?_,zf9 (zas (by omega) (by omega)) (zas (by decide) (by decide)) (by simp) (zqv f1 f3)⟩
     have hop:∀ xs,exTok (7+(k:Int)) 0 ⟨#[]⟩ ⟨#[]⟩ xs=kTk tLp :: (xs.getD 0 []++z2u (7+k) :: (xs.getD 1 []++[kTk tRp])):=by
      intro xs;unfold exTok;rw [if_neg (by omega),if_neg (by omega),if_neg (by omega),if_neg (by omega),if_neg (by omega),if_neg (by omega)]
     rw [e1,e2,show l1.tail=tE b++l2 from e3,e4];simp only [tE,hop,tEs];simp
   . cases h
theorem ziz:∀ (f:Nat) (l l':List Tk) (xs:List Ex),zdr f l=some (xs,l')->zgw l->l=zc7 (tEs xs)++kTk tRp :: l'/\D.fines (zbj xs)/\xs.length<=l.length
 | 0,_,_,_,h,_=>by simp [zdr] at h
 | f + 1,l,l',xs,h,hg=>by
   unfold zdr at h
   split at h
   . rename_i hs
     obtain ⟨rfl,rfl⟩:=vak (vab h);exact ⟨by simpa [tEs,zc7] using zau hg.1 (by decide) hs,by unfold zbj;exact zcp,by simp⟩
   split at h
   . cases h
   rename_i x l1 h1
   obtain ⟨e1,f1⟩:=zb9 f _ _ _ h1 hg;have hlt:=zb6 f _ _ _ h1;obtain ⟨e2,f2,c2⟩:=zi0 f [x] l1 l' xs h (hg.of_eq e1) (by simp) (by have:=hg.2;simp;omega) (zc2 f1);refine ⟨?_,f2,by simp at c2;omega⟩
   rw [e1,← e2];simp [tEs,zc7]
theorem zi0:∀ (f:Nat) (acc:List Ex) (l l':List Tk) (xs:List Ex),zfx f acc l=some (xs,l')->zgw l->acc≠[]->acc.length+l.length<=10000->D.fines (zbj acc)->zc7 (tEs acc)++l=zc7 (tEs xs)++kTk tRp :: l'/\D.fines (zbj xs)/\xs.length<=acc.length+l.length
 | 0,_,_,_,_,h,_,_,_,_=>by simp [zfx] at h
 | f + 1,acc,l,l',xs,h,hg,hne,hc,hf=>by
   unfold zfx at h
   split at h
   . rename_i hs
     have e:=zau hg.1 (by decide) hs;have hl:=zaj (by decide) hs
     split at h
     . cases h
     rename_i x l1 h1
     obtain ⟨e1,f1⟩:=zb9 f _ _ _ h1 (hg.tl e);have hlt:=zb6 f _ _ _ h1;obtain ⟨e2,f2,c2⟩:=zi0 f (acc++[x]) l1 l' xs h ((hg.tl e).of_eq e1) (by simp) (by simp;omega) (by rw [zgi];exact D.fines_append hf (zc2 f1));refine ⟨?_,f2,by simp at c2;omega⟩;rw [← e2,zks,show tEs [x]=[tE x] from by simp [tEs],zf8 _ _ (by intro h0;apply hne;have:=zup acc;rw [h0] at this;exact vam this.symm),e,show l.tail=tE x++l1 from e1];simp
   split at h
   . rename_i hs
     obtain ⟨rfl,rfl⟩:=vak (vab h);exact ⟨by rw [← zau hg.1 (by decide) hs],hf,by omega⟩
   . cases h
end
def zpa (op:Int) (m nm:ByteArray) (xs:List (List Tk)):List Tk:=
 if op=1 then zzg m nm++kTk tEq :: xs.getD 0 []
 else if op=2 then zzg m nm++kTk tLs :: (xs.getD 0 []++kTk tRs :: kTk tEq :: xs.getD 1 [])
 else if op=3 then zzg m nm++kTk tLp :: (zc7 xs++[kTk tRp])
 else if op=6 then kTk zej :: xs.getD 0 [] else kTk zy9 :: xs.getD 0 []
def brT (x:List Tk):List Tk:=kTk tLb :: (x++[kTk tRb])
def zuq (op:Int) (m nm:ByteArray) (xs:List (List Tk)) (b o:List Tk) (k:Nat):List Tk:=
 if op=4 then kTk tIf :: (xs.getD 0 []++(brT b++(if k=0 then [] else kTk zou :: brT o)))
 else if op=5 then kTk zf2 :: (xs.getD 0 []++brT b)
 else zpa op m nm xs++[kTk zgp]
mutual
def tS:St->List Tk
 | .mk op m nm args body other=>zuq op m nm (tEs args) (tSs body) (tSs other) other.length
def tSs:List St->List Tk
 | []=>[]
 | s :: r=>tS s++tSs r
end
theorem zkt:∀ (a b:List St),tSs (a++b)=tSs a++tSs b
 | [],b=>by simp [tSs]
 | x :: r,b=>by simp [tSs,zkt r b]
theorem zz3 (s:St):tSs [s]=tS s:=by simp [tSs]
theorem ze5 {op:Int} {m nm:ByteArray} {args:List Ex} {body other:List St} (h1:(Lit.int .i64 op).wf=true) (h3:args.length<=10000) (h4:D.fines (zbj args)) (h5:body.length<=10000) (h6:D.fines (zbk body)) (h7:other.length<=10000) (h8:D.fines (zbk other)):D.fines (St.mk op m nm args body other).ds:=by
 unfold St.ds;simp only [D.fines,D.fine];refine ⟨h1,trivial,trivial,⟨?_,?_,h4⟩,⟨?_,?_,h6⟩,⟨?_,?_,h8⟩,trivial⟩
 . rw [zgv];omega
 . rw [zgv];omega
 . rw [zdk];omega
 . rw [zdk];omega
 . rw [zdk];omega
 . rw [zdk];omega
theorem zcx:D.fines (zbk []):=by unfold zbk;exact zcp
theorem zel {l l':List Tk} {x:Ex} (h:pX l=some (x,l')) (hg:zgw l):l=tE x++l'/\D.fines x.ds:=zb9 _ _ _ _ h hg
theorem zur {l l':List Tk} {xs:List Ex} (h:pAs l=some (xs,l')) (hg:zgw l):l=zc7 (tEs xs)++kTk tRp :: l'/\D.fines (zbj xs)/\xs.length<=l.length:=ziz _ _ _ _ h hg
def zzh:St->List Tk
 | .mk op m nm args _ _=>zpa op m nm (tEs args)
theorem znm {l l':List Tk} {s:St} (h:zbl l=some (s,l')) (hg:zgw l):l++[]=zzh s++l'/\D.fines s.ds/\s.op≠4/\s.op≠5:=by
 unfold zbl at h
 split at h
 . cases h
 rename_i m nm l1 h1
 obtain ⟨e1,n1,n2⟩:=zuo hg.1 h1;have g1:=hg.of_eq e1
 split at h
 . rename_i hs
   have e2:=zau g1.1 (by decide) hs
   split at h
   . cases h
   rename_i x l2 h2
   obtain ⟨e3,f3⟩:=zel h2 (g1.tl e2);obtain ⟨rfl,rfl⟩:=vak (vab h);refine ⟨?_,ze5 (zas (by decide) (by decide)) (by simp) (zc2 f3) (by simp) zcx (by simp) zcx,by simp [St.op],by simp [St.op]⟩
   rw [vcf,e1,e2,show l1.tail=tE x++l2 from e3];simp [zzh,tEs,zpa]
 split at h
 . rename_i hs
   have e2:=zau g1.1 (by decide) hs
   split at h
   . cases h
   rename_i x l2 h2
   obtain ⟨e3,f3⟩:=zel h2 (g1.tl e2);have g3:=(g1.tl e2).of_eq e3
   split at h
   . rename_i hs2
     have e4:=zau g3.1 (by decide) hs2
     split at h
     . rename_i hs3
       have e5:=zau (g3.tl e4).1 (by decide) hs3
       split at h
       . cases h
       rename_i y l3 h3
       obtain ⟨e6,f6⟩:=zel h3 ((g3.tl e4).tl e5);obtain ⟨rfl,rfl⟩:=vak (vab h);refine ⟨?_,ze5 (zas (by decide) (by decide)) (by simp) (zqv f3 f6) (by simp) zcx (by simp) zcx,by simp [St.op],by simp [St.op]⟩
       rw [vcf,e1,e2,show l1.tail=tE x++l2 from e3,e4,show l2.tail=kTk tEq :: l2.tail.tail from e5,show l2.tail.tail=tE y++l3 from e6];simp [zzh,tEs,zpa]
     . cases h
   . cases h
 split at h
 . rename_i hs
   have e2:=zau g1.1 (by decide) hs
   split at h
   . cases h
   rename_i xs l2 h2
   obtain ⟨e3,f3,c3⟩:=zur h2 (g1.tl e2);have hl3:l1.tail.length<=4096:=(g1.tl e2).2;obtain ⟨rfl,rfl⟩:=vak (vab h);refine ⟨?_,ze5 (zas (by decide) (by decide)) (by omega) f3 (by simp) zcx (by simp) zcx,by simp [St.op],by simp [St.op]⟩
   rw [vcf,e1,e2,show l1.tail=zc7 (tEs xs)++kTk tRp :: l2 from e3];simp [zzh,zpa]
 . cases h
theorem zly {l l1 l2:List Tk} {s s':St} {r:Option (St × List Tk)} (h:zc3 r=some (s,l2)) (hr:r=some (s',l1)) (hg:zgw l) (e:l=zzh s'++l1) (h4:s'.op≠4) (h5:s'.op≠5):s=s'/\l=tS s'++l2:=by
 subst hr;unfold zc3 at h;simp only at h
 split at h
 . rename_i hs
   have e1:=zau (hg.of_eq e).1 (by decide) hs;obtain ⟨rfl,rfl⟩:=vak (vab h);refine ⟨rfl,?_⟩;obtain ⟨op,m,nm,args,body,other⟩:=s';have h4':¬ op=4:=h4;have h5':¬ op=5:=h5;rw [e,e1];simp [zzh,tS,zuq,h4',h5']
 . cases h
theorem zpb {r:Option (St × List Tk)} {s:St} {l:List Tk} (h:zc3 r=some (s,l)):∃ s' l1,r=some (s',l1):=by
 cases r with
 | none=>cases h
 | some p=>exact ⟨p.1,p.2,rfl⟩
mutual
theorem zpc:∀ (f:Nat) (l l':List Tk) (s:St),zb4 f l=some (s,l')->zgw l->l=tS s++l'/\D.fines s.ds
 | 0,_,_,_,h,_=>by simp [zb4] at h
 | f + 1,l,l',s,h,hg=>by
   unfold zb4 at h
   split at h
   . rename_i hs
     have e:=zau hg.1 (by decide) hs
     split at h
     . cases h
     rename_i x l1 h1
     obtain ⟨e1,f1⟩:=zel h1 (hg.tl e);have g1:=(hg.tl e).of_eq e1
     split at h
     . cases h
     rename_i b l2 h2
     obtain ⟨e2,f2,c2⟩:=zc8 f _ _ _ h2 g1;have g2:=g1.of_eq e2;have k1:=g1.2
     split at h
     . rename_i hs2
       have e3:=zau g2.1 (by decide) hs2
       split at h
       . cases h
       rename_i o l3 h3
       obtain ⟨e4,f4,c4⟩:=zc8 f _ _ _ h3 (g2.tl e3);have k2:l2.tail.length<=4096:=(g2.tl e3).2
       split at h
       . cases h
       rename_i ho
       obtain ⟨rfl,rfl⟩:=vak (vab h);refine ⟨?_,ze5 (zas (by decide) (by decide)) (by simp) (zc2 f1) (by omega) f2 (by omega) f4⟩
       have ho':¬ o=[]:=fun h0=>ho (by rw [h0];rfl)
       rw [e,show l.tail=tE x++l1 from e1,e2,e3,show l2.tail=brT (tSs o)++l3 from e4];simp [tS,tEs,zuq,ho']
     . obtain ⟨rfl,rfl⟩:=vak (vab h)
       refine ⟨?_,ze5 (zas (by decide) (by decide)) (by simp) (zc2 f1) (by omega) f2 (by simp) zcx⟩
       rw [e,show l.tail=tE x++l1 from e1,e2];simp [tS,tEs,zuq]
   split at h
   . rename_i hs
     have e:=zau hg.1 (by decide) hs
     split at h
     . cases h
     rename_i x l1 h1
     obtain ⟨e1,f1⟩:=zel h1 (hg.tl e);have g1:=(hg.tl e).of_eq e1
     split at h
     . cases h
     rename_i b l2 h2
     obtain ⟨e2,f2,c2⟩:=zc8 f _ _ _ h2 g1;have k1:=g1.2;obtain ⟨rfl,rfl⟩:=vak (vab h);refine ⟨?_,ze5 (zas (by decide) (by decide)) (by simp) (zc2 f1) (by omega) f2 (by simp) zcx⟩
     rw [e,show l.tail=tE x++l1 from e1,e2];simp [tS,tEs,zuq]
   split at h
   . rename_i hs
     have e:=zau hg.1 (by decide) hs
     cases h1:pX l.tail with
     | none=>rw [h1] at h;cases h
     | some p=>
       obtain ⟨x,l1⟩:=p;rw [h1] at h;obtain ⟨e1,f1⟩:=zel h1 (hg.tl e);obtain ⟨rfl,e2⟩:=zly h rfl hg (by rw [e,e1];simp [zzh,zpa,tEs]) (by simp [St.op]) (by simp [St.op]);exact ⟨e2,ze5 (zas (by decide) (by decide)) (by simp) (zc2 f1) (by simp) zcx (by simp) zcx⟩
   split at h
   . rename_i hs
     have e:=zau hg.1 (by decide) hs
     cases h1:pX l.tail with
     | none=>rw [h1] at h;cases h
     | some p=>
       obtain ⟨x,l1⟩:=p;rw [h1] at h;obtain ⟨e1,f1⟩:=zel h1 (hg.tl e);obtain ⟨rfl,e2⟩:=zly h rfl hg (by rw [e,e1];simp [zzh,zpa,tEs]) (by simp [St.op]) (by simp [St.op]);exact ⟨e2,ze5 (zas (by decide) (by decide)) (by simp) (zc2 f1) (by simp) zcx (by simp) zcx⟩
   . obtain ⟨s',l1,hr⟩:=zpb h
     obtain ⟨e1,f1,h4,h5⟩:=znm hr hg;rw [vcf] at e1;obtain ⟨rfl,e2⟩:=zly h hr hg e1 h4 h5;exact ⟨e2,f1⟩
theorem zc8:∀ (f:Nat) (l l':List Tk) (b:List St),zbn f l=some (b,l')->zgw l->l=brT (tSs b)++l'/\D.fines (zbk b)/\b.length<=l.length
 | 0,_,_,_,h,_=>by simp [zbn] at h
 | f + 1,l,l',b,h,hg=>by
   unfold zbn at h
   split at h
   . rename_i hs
     have e:=zau hg.1 (by decide) hs;have hl:=zaj (by decide) hs;have k:=(hg.tl e).2;obtain ⟨e1,f1,c1⟩:=zhx f [] l.tail l' b h (hg.tl e) (by simp at k ⊢;omega) zcx;refine ⟨?_,f1,by simp at c1;omega⟩
     rw [e,show l.tail=tSs b++kTk tRb :: l' from by simpa [tSs] using e1];simp [brT]
   . cases h
theorem zhx:∀ (f:Nat) (acc:List St) (l l':List Tk) (b:List St),zds f acc l=some (b,l')->zgw l->acc.length+l.length<=10000->D.fines (zbk acc)->tSs acc++l=tSs b++kTk tRb :: l'/\D.fines (zbk b)/\b.length<=acc.length+l.length
 | 0,_,_,_,_,h,_,_,_=>by simp [zds] at h
 | f + 1,acc,l,l',b,h,hg,hc,hf=>by
   unfold zds at h
   split at h
   . rename_i hs
     obtain ⟨rfl,rfl⟩:=vak (vab h);exact ⟨by rw [← zau hg.1 (by decide) hs],hf,by omega⟩
   split at h
   . cases h
   rename_i s l1 h1
   obtain ⟨e1,f1⟩:=zpc f _ _ _ h1 hg;have hlt:=zl2 f _ _ _ h1;obtain ⟨e2,f2,c2⟩:=zhx f (acc++[s]) l1 l' b h (hg.of_eq e1) (by simp;omega) (by rw [zgj,zq8];exact D.fines_append hf f1);refine ⟨?_,f2,by simp at c2;omega⟩
   rw [← e2,zkt,zz3,e1];simp
end
def z2v (b:Bool):List Tk:=if b then [kTk zcf] else []
theorem zus {l:List Tk} (hr:zci l):l=z2v (skB l zcf)++zg1 l:=by
 unfold z2v zg1
 cases h:skB l zcf with
 | true=>exact zau hr (by decide) h
 | false=>rfl
def tD (d:De):List Tk:=z2v d.pub++(if d.kind=1 then [kTk zm3,wTk d.name,kTk tEq,nTk d.n,kTk zgp] else if d.kind=2 then [kTk z1g,wTk d.name,kTk zgp] else [kTk zm4,wTk d.name,kTk tLs,nTk d.n,kTk tRs,kTk zgp])
theorem zpd {k n:Int} {nm:ByteArray} {p:Bool} (h1:(Lit.int .i64 k).wf=true) (h2:(Lit.int .i64 n).wf=true):D.fines (De.mk k nm p n).ds:=by
 simp only [De.ds,D.fines,D.fine];exact ⟨h1,trivial,trivial,h2,trivial⟩
theorem zpe {l l':List Tk} {d:De} (h:zbq l=some (d,l')) (hg:zgw l):l=tD d++l'/\D.fines d.ds:=by
 have ep:=zus hg.1;have gp:=hg.of_eq ep;unfold zbq at h
 split at h
 . rename_i hs
   have e:=zau gp.1 (by decide) hs
   split at h
   . cases h
   rename_i n l1 h1
   obtain ⟨e1,n1⟩:=zc1 (gp.tl e).1 h1;have g1:=(gp.tl e).tl e1
   split at h
   . rename_i hs2
     have e2:=zau g1.1 (by decide) hs2
     split at h
     . cases h
     rename_i k l2 h2
     obtain ⟨e3,k0,k1⟩:=zo8 (g1.tl e2).1 h2;have g3:=(g1.tl e2).tl e3
     split at h
     . rename_i hs3
       have e4:=zau g3.1 (by decide) hs3;obtain ⟨rfl,rfl⟩:=vak (vab h);refine ⟨?_,zpd (zas (by decide) (by decide)) (zas (by omega) (by omega))⟩;refine ep.trans ?_
       rw [e,show (zg1 l).tail=wTk n :: l1 from e1,e2,show l1.tail=nTk k :: l2 from e3,e4];simp [tD]
     . cases h
   . cases h
 split at h
 . rename_i hs
   have e:=zau gp.1 (by decide) hs
   split at h
   . cases h
   rename_i n l1 h1
   obtain ⟨e1,n1⟩:=zc1 (gp.tl e).1 h1;have g1:=(gp.tl e).tl e1
   split at h
   . rename_i hs3
     have e4:=zau g1.1 (by decide) hs3;obtain ⟨rfl,rfl⟩:=vak (vab h);refine ⟨?_,zpd (zas (by decide) (by decide)) (zas (by decide) (by decide))⟩;refine ep.trans ?_
     rw [e,show (zg1 l).tail=wTk n :: l1 from e1,e4];simp [tD]
   . cases h
 split at h
 . rename_i hs
   have e:=zau gp.1 (by decide) hs
   split at h
   . cases h
   rename_i n l1 h1
   obtain ⟨e1,n1⟩:=zc1 (gp.tl e).1 h1;have g1:=(gp.tl e).tl e1
   split at h
   . rename_i hs2
     have e2:=zau g1.1 (by decide) hs2
     split at h
     . cases h
     rename_i k l2 h2
     obtain ⟨e3,k0,k1⟩:=zo8 (g1.tl e2).1 h2;have g3:=(g1.tl e2).tl e3
     split at h
     . rename_i hs3
       have e4:=zau g3.1 (by decide) hs3
       split at h
       . rename_i hs4
         have e5:=zau (g3.tl e4).1 (by decide) hs4;obtain ⟨rfl,rfl⟩:=vak (vab h);refine ⟨?_,zpd (zas (by decide) (by decide)) (zas (by omega) (by omega))⟩;refine ep.trans ?_
         rw [e,show (zg1 l).tail=wTk n :: l1 from e1,e2,show l1.tail=nTk k :: l2 from e3,e4,show l2.tail=kTk zgp :: l2.tail.tail from e5];simp [tD]
       . cases h
     . cases h
   . cases h
 . cases h
def zku (ps:List ByteArray):List Tk:=zc7 (ps.map (fun n=>[wTk n]))
theorem zgx:∀ (f:Nat) (acc:List ByteArray) (l l':List Tk) (ps:List ByteArray),zcb f acc l=some (ps,l')->zgw l->acc≠[]->zku acc++l=zku ps++kTk tRp :: l'/\ps.length<=acc.length+l.length
 | 0,_,_,_,_,h,_,_=>by simp [zcb] at h
 | f + 1,acc,l,l',ps,h,hg,hne=>by
   unfold zcb at h
   split at h
   . rename_i hs
     have e:=zau hg.1 (by decide) hs;have hl:=zaj (by decide) hs
     split at h
     . cases h
     rename_i n l1 h1
     obtain ⟨e1,_⟩:=zc1 (hg.tl e).1 h1;have hlt:=zbc h1;obtain ⟨e2,c2⟩:=zgx f (acc++[n]) l1 l' ps h ((hg.tl e).tl e1) (by simp);refine ⟨?_,by simp at c2;omega⟩;rw [← e2];unfold zku;rw [vce,show [n].map (fun n=>[wTk n])=[[wTk n]] from rfl,zf8 _ _ (by simpa using hne),e,show l.tail=wTk n :: l1 from e1];simp
   split at h
   . rename_i hs
     obtain ⟨rfl,rfl⟩:=vak (vab h);exact ⟨by rw [← zau hg.1 (by decide) hs],by omega⟩
   . cases h
theorem zpf {l l':List Tk} {ps:List ByteArray} (h:zge l=some (ps,l')) (hg:zgw l):l=zku ps++kTk tRp :: l'/\ps.length<=l.length:=by
 unfold zge at h
 split at h
 . rename_i hs
   obtain ⟨rfl,rfl⟩:=vak (vab h);exact ⟨zau hg.1 (by decide) hs,by simp⟩
 split at h
 . cases h
 rename_i n l1 h1
 obtain ⟨e1,_⟩:=zc1 hg.1 h1;have hlt:=zbc h1;obtain ⟨e2,c2⟩:=zgx _ [n] l1 l' ps h (hg.tl e1) (by simp);exact ⟨by rw [e1,← e2];rfl,by simp at c2;omega⟩
def zxm (t:ByteArray) (l:List ByteArray):List Tk:=l.flatMap (fun n=>[kTk t,wTk n,kTk zgp])
theorem zga (t:ByteArray) (ht:0<t.size):∀ (f:Nat) (acc:List ByteArray) (l l':List Tk) (ls:List ByteArray),zcc t f acc l=some (ls,l')->zgw l->zxm t acc++l=zxm t ls++l'/\ls.length<=acc.length+l.length
 | 0,_,_,_,_,h,_=>by simp [zcc] at h
 | f + 1,acc,l,l',ls,h,hg=>by
   unfold zcc at h
   split at h
   . rename_i hs
     have e:=zau hg.1 ht hs;have hl:=zaj ht hs
     split at h
     . cases h
     rename_i n l1 h1
     obtain ⟨e1,_⟩:=zc1 (hg.tl e).1 h1;have hlt:=zbc h1;have g1:=(hg.tl e).tl e1
     split at h
     . rename_i hs2
       have e2:=zau g1.1 (by decide) hs2;have hl2:=zaj (by decide) hs2;obtain ⟨e3,c3⟩:=zga t ht f (acc++[n]) l1.tail l' ls h (g1.tl e2);refine ⟨?_,by simp at c3 hl2 ⊢;omega⟩;rw [← e3,e,show l.tail=wTk n :: l1 from e1]
       conv=>lhs;rw [e2]
       simp [zxm]
     . cases h
   . obtain ⟨rfl,rfl⟩:=vak (vab h)
     exact ⟨rfl,by omega⟩
def tP (p:Pr):List Tk:=z2v p.pub++kTk zzy :: wTk p.name :: kTk tLp :: (zku p.params++kTk tRp :: (zxm zdg p.locals++brT (tSs p.body)))
theorem zgy:∀ (l:List ByteArray),D.fines (zal l)
 | []=>zcp
 | x :: r=>by
   show D.fines (.str x :: zal r);simp only [D.fines,D.fine];exact ⟨trivial,zgy r⟩
theorem zz4 {nm:ByteArray} {pb:Bool} {ps ls:List ByteArray} {b:List St} (h1:ps.length<=10000) (h2:ls.length<=10000) (h3:b.length<=10000) (h4:D.fines (zbk b)):D.fines (Pr.mk nm pb ps ls b).ds:=by
 simp only [Pr.ds,D.fines,D.fine];refine ⟨trivial,trivial,⟨?_,?_,zgy _⟩,⟨?_,?_,zgy _⟩,⟨?_,?_,h4⟩,trivial⟩
 . simp [zal]
 . simp [zal];omega
 . simp [zal]
 . simp [zal];omega
 . rw [zdk];omega
 . rw [zdk];omega
theorem zpg {l l':List Tk} {p:Pr} (h:zec l=some (p,l')) (hg:zgw l):l=tP p++l'/\D.fines p.ds:=by
 have ep:=zus hg.1;have gp:=hg.of_eq ep;unfold zec at h
 split at h
 . rename_i hs
   have e:=zau gp.1 (by decide) hs
   split at h
   . cases h
   rename_i n l1 h1
   obtain ⟨e1,n1⟩:=zc1 (gp.tl e).1 h1;have g1:=(gp.tl e).tl e1
   split at h
   . rename_i hs2
     have e2:=zau g1.1 (by decide) hs2;have g2:=g1.tl e2
     split at h
     . cases h
     rename_i ps l2 h2
     obtain ⟨e3,c3⟩:=zpf h2 g2;have g3':=g2.of_eq e3;have g3:zgw l2:=g3'.tl rfl
     split at h
     . cases h
     rename_i ls l3 h3
     obtain ⟨e4,c4⟩:=zga zdg (by decide) _ [] _ _ _ h3 g3
     have e4':l2=zxm zdg ls++l3:=by simpa [zxm] using e4
     have g4:=g3.of_eq e4'
     split at h
     . cases h
     rename_i b l4 h4
     obtain ⟨e5,f5,c5⟩:=zc8 _ _ _ _ h4 g4;obtain ⟨rfl,rfl⟩:=vak (vab h);have k2:l1.tail.length<=4096:=g2.2;have k3:=g3.2;have k4:=g4.2;refine ⟨?_,zz4 (by omega) (by simp at c4;omega) (by omega) f5⟩;refine ep.trans ?_
     rw [e,show (zg1 l).tail=wTk n :: l1 from e1,e2,show l1.tail=zku ps++kTk tRp :: l2 from e3,e4',e5];simp [tP]
   . cases h
 . cases h
theorem zhy:∀ (f:Nat) (acc:List De) (l l':List Tk) (ds:List De),zed f acc l=some (ds,l')->zgw l->D.fines (zig acc)->acc.flatMap tD++l=ds.flatMap tD++l'/\D.fines (zig ds)/\ds.length<=acc.length+l.length
 | 0,_,_,_,_,h,_,_=>by simp [zed] at h
 | f + 1,acc,l,l',ds,h,hg,hf=>by
   unfold zed at h
   split at h
   . split at h
     . cases h
     rename_i d l1 h1
     obtain ⟨e1,f1⟩:=zpe h1 hg;have hlt:=zqz h1;obtain ⟨e2,f2,c2⟩:=zhy f (acc++[d]) l1 l' ds h (hg.of_eq e1) (by rw [show zig (acc++[d])=zig acc++d.ds from by simp [zig]];exact D.fines_append hf f1);refine ⟨?_,f2,by simp at c2;omega⟩
     rw [← e2,e1];simp
   . obtain ⟨rfl,rfl⟩:=vak (vab h)
     exact ⟨rfl,hf,by omega⟩
theorem zhz:∀ (f:Nat) (acc:List Pr) (l l':List Tk) (ps:List Pr),zee f acc l=some (ps,l')->zgw l->D.fines (zg5 acc)->acc.flatMap tP++l=ps.flatMap tP++kTk zot :: l'/\D.fines (zg5 ps)/\ps.length<=acc.length+l.length
 | 0,_,_,_,_,h,_,_=>by simp [zee] at h
 | f + 1,acc,l,l',ps,h,hg,hf=>by
   unfold zee at h
   split at h
   . rename_i hs
     obtain ⟨rfl,rfl⟩:=vak (vab h);exact ⟨by rw [← zau hg.1 (by decide) hs],hf,by omega⟩
   . split at h
     . cases h
     rename_i p l1 h1
     obtain ⟨e1,f1⟩:=zpg h1 hg;have hlt:=zq1 h1;obtain ⟨e2,f2,c2⟩:=zhz f (acc++[p]) l1 l' ps h (hg.of_eq e1) (by rw [show zg5 (acc++[p])=zg5 acc++p.ds from by simp [zg5]];exact D.fines_append hf f1);refine ⟨?_,f2,by simp at c2;omega⟩
     rw [← e2,e1];simp
def tM (m:Mo):List Tk:=kTk zll :: wTk m.name :: kTk tLb :: (zxm zql m.uses++(m.decls.flatMap tD++(m.procs.flatMap tP++kTk zot :: (brT (tSs m.main)++[kTk tRb]))))
structure Fine (m:Mo):Prop where
 uses:m.uses.length<=10000
 decls:m.decls.length<=10000
 procs:m.procs.length<=10000
 main:m.main.length<=10000
 fd:D.fines (zig m.decls)
 fp:D.fines (zg5 m.procs)
 fm:D.fines (zbk m.main)
theorem zlz {l l':List Tk} {m:Mo} (h:zb0 l=some (m,l')) (hg:zgw l):l=tM m++l'/\Fine m:=by
 unfold zb0 at h
 split at h
 . rename_i hs
   have e:=zau hg.1 (by decide) hs
   split at h
   . cases h
   rename_i n l1 h1
   obtain ⟨e1,n1⟩:=zc1 (hg.tl e).1 h1;have g1:=(hg.tl e).tl e1
   split at h
   . rename_i hs2
     have e2:=zau g1.1 (by decide) hs2;have g2:=g1.tl e2;have k2:l1.tail.length<=4096:=g2.2
     split at h
     . cases h
     rename_i us l2 h2
     obtain ⟨e3,c3⟩:=zga zql (by decide) _ [] _ _ _ h2 g2
     have e3':l1.tail=zxm zql us++l2:=by simpa [zxm] using e3
     have g3:=g2.of_eq e3';have k3:=g3.2
     split at h
     . cases h
     rename_i ds l3 h3
     obtain ⟨e4,f4,c4⟩:=zhy _ [] _ _ _ h3 g3 zcp
     have e4':l2=ds.flatMap tD++l3:=by simpa using e4
     have g4:=g3.of_eq e4';have k4:=g4.2
     split at h
     . cases h
     rename_i ps l4 h4
     obtain ⟨e5,f5,c5⟩:=zhz _ [] _ _ _ h4 g4 zcp
     have e5':l3=ps.flatMap tP++kTk zot :: l4:=by simpa using e5
     have g5:zgw l4:=(g4.of_eq e5').tl rfl;have k5:=g5.2
     split at h
     . cases h
     rename_i b l5 h5
     obtain ⟨e6,f6,c6⟩:=zc8 _ _ _ _ h5 g5;have g6:=g5.of_eq e6
     split at h
     . rename_i hs3
       have e7:=zau g6.1 (by decide) hs3;obtain ⟨rfl,rfl⟩:=vak (vab h);refine ⟨?_,⟨by show us.length<=10000;simp at c3 k2;omega,by show ds.length<=10000;simp at c4;omega,by show ps.length<=10000;simp at c5;omega,by show b.length<=10000;omega,f4,f5,f6⟩⟩
       rw [e,show l.tail=wTk n :: l1 from e1,e2,e3',e4',e5',e6,e7];simp [tM]
     . cases h
   . cases h
 . cases h
inductive exOk:Ex->Prop
 | mk {op n:Int} {m nm:ByteArray} {args:List Ex} (h1:exB op=true) (h2:zcj (exS op) m nm=true) (h3:nOk (exS op) n=true) (h4:za4 (exS op) args.length=true) (h5:∀ a ∈ args,exOk a):exOk (.mk op n m nm args)
theorem z1u:∀ (k:Nat) (l:List Ex),za5 k l=true->zan k l=false->zba k l=true->∀ x ∈ l,exOk x
 | 0,l,_,h2,_,x,hx=>by
   simp [zan] at h2;rw [h2] at hx;cases hx
 | k+1,l,h1,h2,h3,x,hx=>by
   simp only [za5,vas] at h1;simp only [zan,vay] at h2;simp only [zba,vas] at h3;have a1:=h1 x hx;have a3:=h3 x hx
   have a2:zan k x.args=false:=by
    have:=h2.2;rw [vbt] at this;simpa using this x hx
   simp only [vae] at a1 a3;obtain ⟨op,n,m,nm,args⟩:=x;exact .mk a1.1 a3.1 a3.2.1 a3.2.2.1 (z1u k args a1.2 a2 a3.2.2.2)
theorem zut {α:Type} {l:List α} (h:decide (0<l.length)=false):l=[]:=vam (by have:=of_decide_eq_false h;omega)
inductive stOk:St->Prop
 | mk {op:Int} {m nm:ByteArray} {args:List Ex} {body other:List St} (h1:stB op=true) (h2:zcj (stS op) m nm=true) (h3:za4 (stS op) args.length=true) (h4:∀ a ∈ args,exOk a) (h5:(stS op).body=true\/body=[]) (h6:(stS op).other=true\/other=[]) (h7:∀ s ∈ body,stOk s) (h8:∀ s ∈ other,stOk s):stOk (.mk op m nm args body other)
theorem zz5:∀ (k:Nat) (l:List St),zap k l=true->zah k l=false->zaq k l=true->∀ s ∈ l,stOk s
 | 0,l,_,h2,_,x,hx=>by simp [zah] at h2
 | k + 1,l,h1,h2,h3,x,hx=>by
   simp only [zap,vas] at h1;simp only [zah,vay] at h2;simp only [zaq,vas] at h3;have a1:=h1 x hx;have a3:=h3 x hx;have a2:=h2.2;rw [vbt] at a2;have a2:=a2 x hx;simp only [vae] at a1 a3;simp only [vdf,vay,vdd] at a2;obtain ⟨op,m,nm,args,body,other⟩:=x
   have hb:(stS op).body=true\/body=[]:=by
    have:=a3.2.2.2.1;simp [St.op,St.body] at this;exact this
   have ho:(stS op).other=true\/other=[]:=by
    have:=a3.2.2.2.2.1;simp [St.op,St.other] at this;exact this
   have hbm:body=[]\/zah k body=false:=by
    rcases a2.2.1 with h | h
    . left
      simp [St.op,St.body] at h;exact zut h.2
    . exact Or.inr h
   have hom:other=[]\/zah k other=false:=by
    rcases a2.2.2 with h | h
    . left
      exact zut h
    . exact Or.inr h
   refine .mk a1.1 a3.1 a3.2.1 (z1u 6 args a1.2.1 a2.1 a3.2.2.1) hb ho ?_ ?_
   . rcases hbm with h | h
     . rw [h];intro s hs;cases hs
     . exact zz5 k body a1.2.2.1 h a3.2.2.2.2.2.1
   . rcases hom with h | h
     . rw [h];intro s hs;cases hs
     . exact zz5 k other a1.2.2.2 h a3.2.2.2.2.2.2
structure moOk (m:Mo):Prop where
 name:nameOk m.name=true
 uses:∀ u ∈ m.uses,nameOk u=true
 decls:∀ d ∈ m.decls,nameOk d.name=true/\zdh d=true/\1<=d.kind/\d.kind<=3
 procs:∀ p ∈ m.procs,nameOk p.name=true/\(∀ n ∈ p.params,nameOk n=true)/\(∀ n ∈ p.locals,nameOk n=true)/\(∀ s ∈ p.body,stOk s)
 main:∀ s ∈ m.main,stOk s
theorem zqw {m:Mo} (h:m.err=0):m.kinds=true/\m.many=false/\m.form=true:=by
 unfold Mo.err at h
 cases hk:m.kinds with
 | false=>rw [hk] at h;simp at h
 | true=>
   rw [hk] at h
   cases hm:m.many with
   | true=>rw [hm] at h;simp at h
   | false=>
     rw [hm] at h
     cases hf:m.form with
     | false=>rw [hf] at h;simp at h
     | true=>exact ⟨rfl,rfl,rfl⟩
theorem z3e {m:Mo} (h:m.err=0):moOk m:=by
 obtain ⟨hk,hm,hf⟩:=zqw h;unfold Mo.kinds at hk;unfold Mo.many at hm;unfold Mo.form at hf;simp only [vae,vas,decide_eq_true_eq] at hk hf;simp only [vay] at hm;have hmb:=hm.2.2.2.2;rw [vbt] at hmb
 have body:∀ b ∈ m.bodies,∀ s ∈ b,stOk s:=fun b hb=>zz5 6 b (hk.2 b hb) (by simpa using hmb b hb) (hf.2.2.2.2 b hb)
 exact {
  name:=hf.1
  uses:=hf.2.1
  decls:=fun d hd=>⟨(hf.2.2.1 d hd).1,(hf.2.2.1 d hd).2,hk.1 d hd⟩
  procs:=fun p hp=>⟨(hf.2.2.2.1 p hp).1,(hf.2.2.2.1 p hp).2.1,(hf.2.2.2.1 p hp).2.2,body p.body (by unfold Mo.bodies;simp;exact Or.inl ⟨p,hp,rfl⟩)⟩
  main:=body m.main (by unfold Mo.bodies;simp) }
theorem zci.append {a b:List Tk} (h:zci a) (k:zci b):zci (a++b):=⟨by rw [vbh,h.1,k.1];rfl,by rw [vbh,h.2,k.2];rfl⟩
theorem zci.cons {t:Tk} {b:List Tk} (h:zci [t]) (k:zci b):zci (t :: b):=zci.append (a:=[t]) h k
theorem zci.nil:zci []:=⟨rfl,rfl⟩
end Go.Proofs.YtndkhgakfodldaaGreatDoor
