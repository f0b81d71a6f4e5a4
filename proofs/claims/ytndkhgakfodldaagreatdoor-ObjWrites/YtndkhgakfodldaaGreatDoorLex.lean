import Derived.Test.YtndkhgakfodldaaGreatDoorStep
import Derived.Test.YtndkhgakfodldaaGreatDoorPj
namespace Go.Proofs.YtndkhgakfodldaaGreatDoor
set_option maxRecDepth 100000
set_option maxHeartbeats 400000
open Go.RowKit
theorem z6b (s:ByteArray) (w:World) (hs:s.size<=maxLen) :
 Calls Tryz.prog 114 #[.string s] w fun e w'=>∃ a cap,e = .returned (.tuple #[.slice a (lexT s).length cap,.int .i64 (lexE s)])/\zds w' a (lexT s)/\Below w.heap.size w w':=by
 unfold maxLen at hs
 by_cases hlong:4096<s.size
 . have HE:Hid (lexT s=[]/\lexE s=2):=z29 hlong
   go_enter Tryz.func114,Tryz.ntmps114;go_wp2_with fail;go_ret2;exact ⟨none,0,by rw [HE.out.1,HE.out.2];rfl,by rw [HE.out.1];exact Or.inl rfl,Below.refl _ _⟩
 . have HC:Hid (Calls Tryz.prog 157 #[.string s] w fun e w'=>∃ a cap,e = .returned (.tuple #[.slice a (lexT s).length cap,.int .i64 (lexE s)])/\zds w' a (lexT s)/\Below w.heap.size w w'):=zxx s w (by omega)
   generalize lexT s=ts at *;generalize lexE s=n at *;go_enter Tryz.func114,Tryz.ntmps114;go_wp2_with fail;refine HC.out.mono ?_;rintro e w2 ⟨a,cap,rfl,hT,hb⟩;have HT:Hid (zds w2 a ts):=hT;clear hT HC;go_wp2_with fail;go_ret2;exact ⟨a,cap,rfl,HT.out,hb⟩
def z8b:Nat->ByteArray->Nat->Option (List Tk)
 | 0,s,a=>if a<s.size then none else some []
 | f + 1,s,a=>
   if h:a<s.size then
    if zfq s[a] then z8b f s (a+Lx.pieceN s a)
    else match zdq (s.extract a (a+Lx.pieceN s a)) with
     | none=>none
     | some t=>(z8b f s (a+Lx.pieceN s a)).map (t :: ·)
   else some []
theorem zzr:∀ (f:Nat) (s:ByteArray) (a:Nat),s.size - a<=f->z8b f s a=zd4 s a
 | 0,s,a,h=>by rw [zl4 s a (by omega)];unfold z8b;rw [if_neg (by omega)]
 | f+1,s,a,h=>by
   have hp:=Lx.zhk s a;have ih:=zzr f s (a+Lx.pieceN s a) (by omega);rw [zd4,z8b,ih]
   cases zdq (s.extract a (a+Lx.pieceN s a))<;>rfl
def ziy (l:L8):Nat:=if Lx.z7t l=0 then 1 else Lx.z7t l
theorem zoo (l:L8):0<ziy l:=by unfold ziy;split<;>omega
def zyk:L8->Option (List Tk)
 | []=>some []
 | c :: l=>
   if zfq c then zyk ((c :: l).drop (ziy (c :: l)))
   else match zdq (strOf ((c :: l).take (ziy (c :: l)))) with
    | none=>none
    | some t=>(zyk ((c :: l).drop (ziy (c :: l)))).map (t :: ·)
termination_by l=>l.length
decreasing_by
 all_goals have:=zoo (c :: l);simp only [vcc,vas];omega
theorem ztw (s:ByteArray) (a n:Nat):s.extract a (a+n)=strOf ((s.data.toList.drop a).take n):=by
 rw [← zxg,strOf_back]
theorem zxi:∀ (n:Nat) (s:ByteArray) (a:Nat),s.size - a=n->zd4 s a=zyk (s.data.toList.drop a):=by
 intro n
 induction n using Nat.strongRecOn with
 | _ n ih=>
   intro s a hn
   by_cases h:a<s.size
   . have hd:=zzo s a h
     have hp:Lx.pieceN s a=ziy (s.data.toList.drop a):=rfl;have hpos:=Lx.zhk s a;have ih':=ih (s.size - (a+Lx.pieceN s a)) (by omega) s (a+Lx.pieceN s a) rfl
     have hdd:s.data.toList.drop (a+Lx.pieceN s a)=(s.data.toList.drop a).drop (Lx.pieceN s a):=by rw [List.drop_drop]
     cases hb:zfq s[a] with
     | true=>
       rw [zl5 s a h hb,ih',hdd,hp,hd,zyk,if_pos hb]
     | false=>
       have he:=ztw s a (Lx.pieceN s a)
       cases ht:zdq (s.extract a (a+Lx.pieceN s a)) with
       | none=>
         rw [zom s a h hb ht];rw [he,hp,hd] at ht;rw [hd,zyk,if_neg (by simp [hb]),ht]
       | some t=>
         rw [zon s a t h hb ht,ih',hdd];rw [he,hp,hd] at ht;rw [hp,hd,zyk,if_neg (by simp [hb]),ht]
   . rw [zl4 s a h,vde (by rw [Lx.zat];omega),zyk]
theorem zxj (s:ByteArray):zd4 s 0=zyk s.data.toList:=by
 have:=zxi _ s 0 rfl;rwa [List.drop_zero] at this
theorem ztx {s:ByteArray} {t:Tk} (h:zdq s=some t):ze6 t=true/\Tk.okB t=true:=by
 unfold zdq at h
 split at h
 . rename_i hs
   cases h;exact ⟨rfl,by unfold Tk.okB;simp [hs]⟩
 . split at h
   . rename_i hn
     cases h;exact ⟨rfl,by unfold Tk.okB;simp [hn]⟩
   . split at h
     . rename_i hk
       cases h;refine ⟨rfl,?_⟩
       have hv:Lx.valL s.data.toList<=1099511627775:=by unfold Lx.zhz at hk;simp at hk;exact hk.2
       unfold Tk.okB;rw [vba];simp;omega
     . cases h
theorem zxk:∀ (n:Nat) (l:L8) (ts:List Tk),l.length=n->zyk l=some ts->zdj ts/\ts.length<=l.length:=by
 intro n
 induction n using Nat.strongRecOn with
 | _ n ih=>
   intro l ts hn h
   cases l with
   | nil=>rw [zyk] at h;cases h;exact ⟨⟨rfl,rfl⟩,vaa _⟩
   | cons c r=>
     have hpos:=zoo (c :: r)
     have hlen:((c :: r).drop (ziy (c :: r))).length<n:=by rw [vcc];simp at hn ⊢;omega
     rw [zyk] at h
     split at h
     . obtain ⟨h1,h2⟩:=ih _ hlen _ ts rfl h
       exact ⟨h1,by omega⟩
     . cases ht:zdq (strOf ((c :: r).take (ziy (c :: r)))) with
       | none=>rw [ht] at h;cases h
       | some t=>
         rw [ht] at h
         cases hr:zyk ((c :: r).drop (ziy (c :: r))) with
         | none=>rw [hr] at h;cases h
         | some us=>
           rw [hr] at h;cases h;obtain ⟨h1,h2⟩:=ih _ hlen _ us rfl hr;obtain ⟨hk,ho⟩:=ztx ht;refine ⟨⟨?_,?_⟩,?_⟩
           . rw [vda,hk,h1.1];rfl
           . rw [vda,ho,h1.2];rfl
           . simp only [vas] at *;omega
def kTk (t:ByteArray):Tk:=⟨if Lx.zbx t.data.toList then 1 else 3,0,t⟩
def wTk (t:ByteArray):Tk:=⟨1,0,t⟩
def nTk (n:Int):Tk:=⟨2,n,⟨#[]⟩⟩
theorem zzs {l:L8} (h:Lx.zkx l=true):Lx.zbx l=false:=by
 match l,h with
 | [c],h=>
   have h':Lx.signs.contains c=true:=h
   have key:∀ c ∈ Lx.signs,Lx.zbx [c]=false:=by decide
   exact key c (vct.1 h')
theorem zdj.of_app {a b:List Tk} (h:zdj (a++b)):zdj b:=by
 obtain ⟨h1,h2⟩:=h;rw [vch,vad] at h1 h2;exact ⟨h1.2,h2.2⟩
theorem zdj.head {t:Tk} {b:List Tk} (h:zdj (t :: b)):ze6 t=true/\Tk.okB t=true:=by
 obtain ⟨h1,h2⟩:=h;rw [vda,vad] at h1 h2;exact ⟨h1.1,h2.1⟩
theorem zdj.of_eq {a b c:List Tk} (h:zdj a) (e:a=b++c):zdj c:=by rw [e] at h;exact h.of_app
theorem zop {s t:ByteArray} (h:s.toList=t.toList):s=t:=by
 rw [vba,vba] at h;exact ven (Array.ext' h)
theorem za6 {l:List Tk} {t:ByteArray} (hr:zdj l) (ht:0<t.size) (h:skB l t=true):l=kTk t :: l.tail:=by
 cases l with
 | nil=>exact absurd rfl (zyw ht h)
 | cons x r=>
   obtain ⟨hk,ho⟩:=hr.head;obtain ⟨k,n,s⟩:=x;have hs:s=t:=zop (beq_iff_eq.1 h);subst hs;show Tk.mk k n s :: r=kTk s :: r
   have hne:s.toList.isEmpty=false:=by
    cases he:s.toList.isEmpty with
    | false=>rfl
    | true=>
      rw [vba] at he;have h1:=Lx.zat s;rw [List.isEmpty_iff.1 he] at h1;simp at h1;omega
   unfold ze6 at hk;simp only [vad,decide_eq_true_eq] at hk;unfold Tk.okB at ho
   have h123:k=1\/k=2\/k=3:=by omega
   rcases h123 with rfl | rfl | rfl
   . simp at ho
     unfold kTk
     rw [ho.1,ho.2];rfl
   . simp [hne] at ho
   . simp at ho
     unfold kTk
     rw [ho.1,zzs ho.2];rfl
theorem z3a (s:ByteArray):zps s=zst s:=by
 unfold zps zst;rw [vba];show z5y.any _=kept.contains _;rw [vcq,List.any_eq_true,vct]
 constructor
 . rintro ⟨x,hx,h⟩
   rw [beq_iff_eq.1 h];exact hx
 . intro h
   exact ⟨_,h,beq_self_eq_true _⟩
theorem zej {l l':List Tk} {a:ByteArray} (hr:zdj l) (h:zd2 l=some (a,l')):l=wTk a :: l'/\nameOk a=true:=by
 unfold zd2 at h
 split at h
 . rename_i hk
   obtain ⟨rfl,rfl⟩:=vak (vac h);simp only [vad,beq_iff_eq,vdm] at hk
   cases l with
   | nil=>exact absurd hk.1 (by decide)
   | cons x r=>
     obtain ⟨_,ho⟩:=hr.head;obtain ⟨k,n,s⟩:=x;have e1:k=1:=hk.1;have e2:zps s=false:=hk.2;subst e1;unfold Tk.okB at ho;simp at ho;have e3:n=0:=ho.1;subst e3;refine ⟨rfl,?_⟩;show nameOk s=true;unfold nameOk
     rw [← z3a,e2,ho.2];rfl
 . cases h
theorem zty {l l':List Tk} {a:Int} (hr:zdj l) (h:pNum l=some (a,l')):l=nTk a :: l'/\0<=a/\a<=1099511627775:=by
 unfold pNum at h
 split at h
 . rename_i hk
   obtain ⟨rfl,rfl⟩:=vak (vac h)
   cases l with
   | nil=>exact absurd hk (by decide)
   | cons x r=>
     obtain ⟨_,ho⟩:=hr.head;obtain ⟨k,n,s⟩:=x;have e1:k=2:=hk;subst e1;unfold Tk.okB at ho;simp at ho
     have e2:s=⟨#[]⟩:=by
      apply zop
      rw [ho.1,vba]
     subst e2;exact ⟨rfl,ho.2⟩
 . cases h
def z5c (m n:ByteArray):List Tk:=if m.size=0 then [wTk n] else [wTk m,kTk z5x,wTk n]
theorem z3b {s:ByteArray} (h:nameOk s=true):0<s.size:=by
 rcases vce s.size with h0 | h0
 . exfalso
   have:s.data.toList=[]:=vao (by rw [Lx.zat];exact h0);unfold nameOk at h;rw [this] at h;simp [Lx.zbx,Lx.zqo] at h
 . exact h0
theorem zzt {l l':List Tk} {m n:ByteArray} (hr:zdj l) (h:zyh l=some ((m,n),l')):l=z5c m n++l'/\nameOk n=true/\(m.size=0\/nameOk m=true):=by
 unfold zyh at h
 split at h
 . cases h
 rename_i a l1 h1
 obtain ⟨e1,n1⟩:=zej hr h1;have r1:zdj l1:=hr.of_eq (b:=[wTk a]) e1
 split at h
 . rename_i hs
   have e2:=za6 r1 (by decide) hs
   split at h
   . cases h
   rename_i b l2 h2
   obtain ⟨e3,n3⟩:=zej (r1.of_eq (b:=[kTk z5x]) e2) h2;obtain ⟨h3,rfl⟩:=vak (vac h);obtain ⟨rfl,rfl⟩:=vak h3;refine ⟨?_,n3,Or.inr n1⟩;unfold z5c
   rw [if_neg (by have:=z3b n1;omega),e1,e2,show l1.tail=wTk b :: l2 from e3];rfl
 . obtain ⟨h3,rfl⟩:=vak (vac h)
   obtain ⟨rfl,rfl⟩:=vak h3;exact ⟨e1,n1,Or.inl rfl⟩
def z9a (op:Int):Tk:=kTk (opTexts.getD (op - 7).toNat ⟨#[]⟩)
def zeo:List (List Tk)->List Tk
 | []=>[]
 | [x]=>x
 | x :: y :: r=>x++kTk z2o :: zeo (y :: r)
def exTok (op n:Int) (m nm:ByteArray) (xs:List (List Tk)):List Tk:=
 if op=1 then [nTk n] else if op=2 then [kTk tIn] else if op=3 then z5c m nm
 else if op=4 then z5c m nm++kTk tLs :: (xs.getD 0 []++[kTk tRs])
 else if op=5 then z5c m nm++kTk tLp :: (zeo xs++[kTk tRp])
 else if op=6 then kTk z70 :: xs.getD 0 []
 else kTk tLp :: (xs.getD 0 []++z9a op :: (xs.getD 1 []++[kTk tRp]))
mutual
def tE:Ex->List Tk
 | .mk op n m nm args=>exTok op n m nm (tEs args)
def tEs:List Ex->List (List Tk)
 | []=>[]
 | x :: r=>tE x :: tEs r
end
theorem zoq:∀ (a b:List Ex),tEs (a++b)=tEs a++tEs b
 | [],b=>by simp [tEs]
 | x :: r,b=>by simp [tEs,zoq r b]
theorem zzu:∀ (a:List Ex),(tEs a).length=a.length
 | []=>by simp [tEs]
 | x :: r=>by simp [tEs,zzu r]
theorem zid:∀ (a:List (List Tk)) (x:List Tk),a≠[]->zeo (a++[x])=zeo a++kTk z2o :: x
 | [],_,h=>absurd rfl h
 | [y],x,_=>by simp [zeo]
 | y :: z :: r,x,_=>by
   have:=zid (z :: r) x (by simp);show y++kTk z2o :: zeo ((z :: r)++[x])=(y++kTk z2o :: zeo (z :: r))++kTk z2o :: x
   rw [this];simp
theorem za2 {n:Int} (h0 : -9223372036854775808<=n) (h1:n<=9223372036854775807):(Lit.int .i64 n).wf=true:=by
 have e1:IntKind.i64.min = -9223372036854775808:=by decide
 have e2:IntKind.i64.max=9223372036854775807:=by decide
 simp [Lit.wf,e1,e2];omega
theorem ziz:∀ (l:List Ex),(zbz l).length=5*l.length
 | []=>by simp [zbz]
 | x :: r=>by
   have:=x.ds_len
   simp [zbz,ziz r,this];omega
theorem ze7:∀ (l:List St),(zb0 l).length=6*l.length
 | []=>by simp [zb0]
 | x :: r=>by
   have:=x.ds_len
   simp [zb0,ze7 r,this];omega
theorem zie {op n:Int} {m nm:ByteArray} {args:List Ex} (h1:(Lit.int .i64 op).wf=true) (h2:(Lit.int .i64 n).wf=true) (h3:args.length<=10000) (h4:D.fines (zbz args)):D.fines (Ex.mk op n m nm args).ds:=by
 unfold Ex.ds;simp only [D.fines,D.fine];refine ⟨h1,h2,trivial,trivial,⟨?_,?_,h4⟩,trivial⟩
 . rw [ziz];omega
 . rw [ziz];omega
theorem zdt:D.fines []:=by unfold D.fines;trivial
theorem zek {x:Ex} (h:D.fines x.ds):D.fines (zbz [x]):=by rw [zle];exact h
theorem zvz {x y:Ex} (h:D.fines x.ds) (k:D.fines y.ds):D.fines (zbz [x,y]):=by
 show D.fines (x.ds++(y.ds++[]));exact D.fines_append h (D.fines_append k zdt)
theorem z3c {l:List Tk} {k:Nat} (hr:zdj l) (h:zyv l=some k):l=z9a (7+k) :: l.tail/\k<9:=by
 unfold zyv at h;obtain ⟨hk,h2,_⟩:=vbz.1 h
 have hp:0<(opTexts[k]).size:=by
  have:∀ x ∈ opTexts,0<x.size:=by decide
  exact this _ (vap hk)
 refine ⟨?_,hk⟩;have e:=za6 hr hp h2;unfold z9a;rw [show ((7:Int)+(k:Int) - 7).toNat=k from by omega,vbl,vaj hk];exact e
def zi0 (l:List Tk):Prop:=zdj l/\l.length<=4096
theorem zi0.of_eq {a b c:List Tk} (h:zi0 a) (e:a=b++c):zi0 c:=⟨h.1.of_eq e,by have:=h.2;rw [e,vab] at this;omega⟩
theorem zi0.tl {a c:List Tk} {t:Tk} (h:zi0 a) (e:a=t :: c):zi0 c:=h.of_eq (b:=[t]) e
mutual
theorem zc8:∀ (f:Nat) (l l':List Tk) (x:Ex),zbw f l=some (x,l')->zi0 l->l=tE x++l'/\D.fines x.ds
 | 0,_,_,_,h,_=>by simp [zbw] at h
 | f + 1,l,l',x,h,hg=>by
   unfold zbw at h
   split at h
   . rename_i hk
     obtain ⟨rfl,rfl⟩:=vak (vac h)
     have hn:pNum l=some ((hd l).n,l.tail):=by unfold pNum;rw [if_pos hk]
     obtain ⟨e,h0,h1⟩:=zty hg.1 hn;exact ⟨by simpa [tE,exTok] using e,zie (za2 (by decide) (by decide)) (za2 (by omega) (by omega)) (by simp) (by unfold zbz;exact zdt)⟩
   split at h
   . rename_i hs
     obtain ⟨rfl,rfl⟩:=vak (vac h);exact ⟨by simpa [tE,exTok] using za6 hg.1 (by decide) hs,zie (za2 (by decide) (by decide)) (za2 (by decide) (by decide)) (by simp) (by unfold zbz;exact zdt)⟩
   split at h
   . rename_i hs
     have e:=za6 hg.1 (by decide) hs
     split at h
     . cases h
     rename_i y l1 h1
     obtain ⟨rfl,rfl⟩:=vak (vac h);obtain ⟨e1,f1⟩:=zc8 f _ _ _ h1 (hg.tl e);refine ⟨?_,zie (za2 (by decide) (by decide)) (za2 (by decide) (by decide)) (by simp) (zek f1)⟩
     rw [e,show l.tail=tE y++l1 from e1];simp [tE,tEs,exTok]
   split at h
   . rename_i hs
     have e:=za6 hg.1 (by decide) hs;obtain ⟨e1,f1⟩:=ztz f _ _ _ h (hg.tl e);exact ⟨e.trans e1,f1⟩
   split at h
   . cases h
   rename_i m nm l1 h1
   obtain ⟨e1,n1,n2⟩:=zzt hg.1 h1;have g1:=hg.of_eq e1
   split at h
   . rename_i hs
     have e2:=za6 g1.1 (by decide) hs
     split at h
     . cases h
     rename_i y l2 h2
     obtain ⟨e3,f3⟩:=zc8 f _ _ _ h2 (g1.tl e2)
     split at h
     . rename_i hs2
       have e4:=za6 ((g1.tl e2).of_eq e3).1 (by decide) hs2;obtain ⟨rfl,rfl⟩:=vak (vac h);refine ⟨?_,zie (za2 (by decide) (by decide)) (za2 (by decide) (by decide)) (by simp) (zek f3)⟩
       rw [e1,e2,show l1.tail=tE y++l2 from e3,e4];simp [tE,tEs,exTok]
     . cases h
   split at h
   . rename_i hs
     have e2:=za6 g1.1 (by decide) hs
     split at h
     . cases h
     rename_i ys l2 h2
     obtain ⟨e3,f3,c3⟩:=zl7 f _ _ _ h2 (g1.tl e2);obtain ⟨rfl,rfl⟩:=vak (vac h);have hl3:l1.tail.length<=4096:=(g1.tl e2).2;refine ⟨?_,zie (za2 (by decide) (by decide)) (za2 (by decide) (by decide)) (by omega) f3⟩
     rw [e1,e2,show l1.tail=zeo (tEs ys)++kTk tRp :: l2 from e3];simp [tE,exTok]
   . obtain ⟨rfl,rfl⟩:=vak (vac h)
     refine ⟨?_,zie (za2 (by decide) (by decide)) (za2 (by decide) (by decide)) (by simp) (by unfold zbz;exact zdt)⟩
     rw [e1];simp [tE,exTok]
theorem ztz:∀ (f:Nat) (l l':List Tk) (x:Ex),zgw f l=some (x,l')->zi0 l->kTk tLp :: l=tE x++l'/\D.fines x.ds
 | 0,_,_,_,h,_=>by simp [zgw] at h
 | f + 1,l,l',x,h,hg=>by
   unfold zgw at h
   split at h
   . cases h
   rename_i a l1 h1
   obtain ⟨e1,f1⟩:=zc8 f _ _ _ h1 hg;have g1:=hg.of_eq e1
   split at h
   . cases h
   rename_i k hk
   obtain ⟨e2,k9⟩:=z3c g1.1 hk
   split at h
   . cases h
   rename_i b l2 h2
   obtain ⟨e3,f3⟩:=zc8 f _ _ _ h2 (g1.tl e2)
   split at h
   . rename_i hs
     have e4:=za6 ((g1.tl e2).of_eq e3).1 (by decide) hs;obtain ⟨rfl,rfl⟩:=vak (vac h);refine ⟨?_,zie (za2 (by omega) (by omega)) (za2 (by decide) (by decide)) (by simp) (zvz f1 f3)⟩
     have hop:∀ xs,exTok (7+(k:Int)) 0 ⟨#[]⟩ ⟨#[]⟩ xs=kTk tLp :: (xs.getD 0 []++z9a (7+k) :: (xs.getD 1 []++[kTk tRp])):=by
      intro xs;unfold exTok;rw [if_neg (by omega),if_neg (by omega),if_neg (by omega),if_neg (by omega),if_neg (by omega),if_neg (by omega)]
     rw [e1,e2,show l1.tail=tE b++l2 from e3,e4];simp only [tE,hop,tEs];simp
   . cases h
theorem zl7:∀ (f:Nat) (l l':List Tk) (xs:List Ex),zff f l=some (xs,l')->zi0 l->l=zeo (tEs xs)++kTk tRp :: l'/\D.fines (zbz xs)/\xs.length<=l.length
 | 0,_,_,_,h,_=>by simp [zff] at h
 | f + 1,l,l',xs,h,hg=>by
   unfold zff at h
   split at h
   . rename_i hs
     obtain ⟨rfl,rfl⟩:=vak (vac h);exact ⟨by simpa [tEs,zeo] using za6 hg.1 (by decide) hs,by unfold zbz;exact zdt,by simp⟩
   split at h
   . cases h
   rename_i x l1 h1
   obtain ⟨e1,f1⟩:=zc8 f _ _ _ h1 hg;have hlt:=zc0 f _ _ _ h1;obtain ⟨e2,f2,c2⟩:=zl8 f [x] l1 l' xs h (hg.of_eq e1) (by simp) (by have:=hg.2;simp;omega) (zek f1);refine ⟨?_,f2,by simp at c2;omega⟩
   rw [e1,← e2];simp [tEs,zeo]
theorem zl8:∀ (f:Nat) (acc:List Ex) (l l':List Tk) (xs:List Ex),zhw f acc l=some (xs,l')->zi0 l->acc≠[]->acc.length+l.length<=10000->D.fines (zbz acc)->zeo (tEs acc)++l=zeo (tEs xs)++kTk tRp :: l'/\D.fines (zbz xs)/\xs.length<=acc.length+l.length
 | 0,_,_,_,_,h,_,_,_,_=>by simp [zhw] at h
 | f + 1,acc,l,l',xs,h,hg,hne,hc,hf=>by
   unfold zhw at h
   split at h
   . rename_i hs
     have e:=za6 hg.1 (by decide) hs;have hl:=zar (by decide) hs
     split at h
     . cases h
     rename_i x l1 h1
     obtain ⟨e1,f1⟩:=zc8 f _ _ _ h1 (hg.tl e);have hlt:=zc0 f _ _ _ h1;obtain ⟨e2,f2,c2⟩:=zl8 f (acc++[x]) l1 l' xs h ((hg.tl e).of_eq e1) (by simp) (by simp;omega) (by rw [zin];exact D.fines_append hf (zek f1));refine ⟨?_,f2,by simp at c2;omega⟩;rw [← e2,zoq,show tEs [x]=[tE x] from by simp [tEs],zid _ _ (by intro h0;apply hne;have:=zzu acc;rw [h0] at this;exact vao this.symm),e,show l.tail=tE x++l1 from e1];simp
   split at h
   . rename_i hs
     obtain ⟨rfl,rfl⟩:=vak (vac h);exact ⟨by rw [← za6 hg.1 (by decide) hs],hf,by omega⟩
   . cases h
end
def zt0 (op:Int) (m nm:ByteArray) (xs:List (List Tk)):List Tk:=
 if op=1 then z5c m nm++kTk tEq :: xs.getD 0 []
 else if op=2 then z5c m nm++kTk tLs :: (xs.getD 0 []++kTk tRs :: kTk tEq :: xs.getD 1 [])
 else if op=3 then z5c m nm++kTk tLp :: (zeo xs++[kTk tRp])
 else if op=6 then kTk zgg :: xs.getD 0 [] else kTk z47 :: xs.getD 0 []
def brT (x:List Tk):List Tk:=kTk tLb :: (x++[kTk tRb])
def zzv (op:Int) (m nm:ByteArray) (xs:List (List Tk)) (b o:List Tk) (k:Nat):List Tk:=
 if op=4 then kTk tIf :: (xs.getD 0 []++(brT b++(if k=0 then [] else kTk ztl :: brT o)))
 else if op=5 then kTk zh4 :: (xs.getD 0 []++brT b)
 else zt0 op m nm xs++[kTk zis]
mutual
def tS:St->List Tk
 | .mk op m nm args body other=>zzv op m nm (tEs args) (tSs body) (tSs other) other.length
def tSs:List St->List Tk
 | []=>[]
 | s :: r=>tS s++tSs r
end
theorem zor:∀ (a b:List St),tSs (a++b)=tSs a++tSs b
 | [],b=>by simp [tSs]
 | x :: r,b=>by simp [tSs,zor r b]
theorem z6c (s:St):tSs [s]=tS s:=by simp [tSs]
theorem zg4 {op:Int} {m nm:ByteArray} {args:List Ex} {body other:List St} (h1:(Lit.int .i64 op).wf=true) (h3:args.length<=10000) (h4:D.fines (zbz args)) (h5:body.length<=10000) (h6:D.fines (zb0 body)) (h7:other.length<=10000) (h8:D.fines (zb0 other)):D.fines (St.mk op m nm args body other).ds:=by
 unfold St.ds;simp only [D.fines,D.fine];refine ⟨h1,trivial,trivial,⟨?_,?_,h4⟩,⟨?_,?_,h6⟩,⟨?_,?_,h8⟩,trivial⟩
 . rw [ziz];omega
 . rw [ziz];omega
 . rw [ze7];omega
 . rw [ze7];omega
 . rw [ze7];omega
 . rw [ze7];omega
theorem zeb:D.fines (zb0 []):=by unfold zb0;exact zdt
theorem zgh {l l':List Tk} {x:Ex} (h:pX l=some (x,l')) (hg:zi0 l):l=tE x++l'/\D.fines x.ds:=zc8 _ _ _ _ h hg
theorem zzw {l l':List Tk} {xs:List Ex} (h:pAs l=some (xs,l')) (hg:zi0 l):l=zeo (tEs xs)++kTk tRp :: l'/\D.fines (zbz xs)/\xs.length<=l.length:=zl7 _ _ _ _ h hg
def z5d:St->List Tk
 | .mk op m nm args _ _=>zt0 op m nm (tEs args)
theorem zsb {l l':List Tk} {s:St} (h:zb2 l=some (s,l')) (hg:zi0 l):l++[]=z5d s++l'/\D.fines s.ds/\s.op≠4/\s.op≠5:=by
 unfold zb2 at h
 split at h
 . cases h
 rename_i m nm l1 h1
 obtain ⟨e1,n1,n2⟩:=zzt hg.1 h1;have g1:=hg.of_eq e1
 split at h
 . rename_i hs
   have e2:=za6 g1.1 (by decide) hs
   split at h
   . cases h
   rename_i x l2 h2
   obtain ⟨e3,f3⟩:=zgh h2 (g1.tl e2);obtain ⟨rfl,rfl⟩:=vak (vac h);refine ⟨?_,zg4 (za2 (by decide) (by decide)) (by simp) (zek f3) (by simp) zeb (by simp) zeb,by simp [St.op],by simp [St.op]⟩
   rw [vbe,e1,e2,show l1.tail=tE x++l2 from e3];simp [z5d,tEs,zt0]
 split at h
 . rename_i hs
   have e2:=za6 g1.1 (by decide) hs
   split at h
   . cases h
   rename_i x l2 h2
   obtain ⟨e3,f3⟩:=zgh h2 (g1.tl e2);have g3:=(g1.tl e2).of_eq e3
   split at h
   . rename_i hs2
     have e4:=za6 g3.1 (by decide) hs2
     split at h
     . rename_i hs3
       have e5:=za6 (g3.tl e4).1 (by decide) hs3
       split at h
       . cases h
       rename_i y l3 h3
       obtain ⟨e6,f6⟩:=zgh h3 ((g3.tl e4).tl e5);obtain ⟨rfl,rfl⟩:=vak (vac h);refine ⟨?_,zg4 (za2 (by decide) (by decide)) (by simp) (zvz f3 f6) (by simp) zeb (by simp) zeb,by simp [St.op],by simp [St.op]⟩
       rw [vbe,e1,e2,show l1.tail=tE x++l2 from e3,e4,show l2.tail=kTk tEq :: l2.tail.tail from e5,show l2.tail.tail=tE y++l3 from e6];simp [z5d,tEs,zt0]
     . cases h
   . cases h
 split at h
 . rename_i hs
   have e2:=za6 g1.1 (by decide) hs
   split at h
   . cases h
   rename_i xs l2 h2
   obtain ⟨e3,f3,c3⟩:=zzw h2 (g1.tl e2);have hl3:l1.tail.length<=4096:=(g1.tl e2).2;obtain ⟨rfl,rfl⟩:=vak (vac h);refine ⟨?_,zg4 (za2 (by decide) (by decide)) (by omega) f3 (by simp) zeb (by simp) zeb,by simp [St.op],by simp [St.op]⟩
   rw [vbe,e1,e2,show l1.tail=zeo (tEs xs)++kTk tRp :: l2 from e3];simp [z5d,zt0]
 . cases h
theorem zqc {l l1 l2:List Tk} {s s':St} {r:Option (St × List Tk)} (h:zem r=some (s,l2)) (hr:r=some (s',l1)) (hg:zi0 l) (e:l=z5d s'++l1) (h4:s'.op≠4) (h5:s'.op≠5):s=s'/\l=tS s'++l2:=by
 subst hr;unfold zem at h;simp only at h
 split at h
 . rename_i hs
   have e1:=za6 (hg.of_eq e).1 (by decide) hs;obtain ⟨rfl,rfl⟩:=vak (vac h);refine ⟨rfl,?_⟩;obtain ⟨op,m,nm,args,body,other⟩:=s';have h4':¬ op=4:=h4;have h5':¬ op=5:=h5;rw [e,e1];simp [z5d,tS,zzv,h4',h5']
 . cases h
theorem zt1 {r:Option (St × List Tk)} {s:St} {l:List Tk} (h:zem r=some (s,l)):∃ s' l1,r=some (s',l1):=by
 cases r with
 | none=>cases h
 | some p=>exact ⟨p.1,p.2,rfl⟩
mutual
theorem zt2:∀ (f:Nat) (l l':List Tk) (s:St),zcw f l=some (s,l')->zi0 l->l=tS s++l'/\D.fines s.ds
 | 0,_,_,_,h,_=>by simp [zcw] at h
 | f + 1,l,l',s,h,hg=>by
   unfold zcw at h
   split at h
   . rename_i hs
     have e:=za6 hg.1 (by decide) hs
     split at h
     . cases h
     rename_i x l1 h1
     obtain ⟨e1,f1⟩:=zgh h1 (hg.tl e);have g1:=(hg.tl e).of_eq e1
     split at h
     . cases h
     rename_i b l2 h2
     obtain ⟨e2,f2,c2⟩:=zep f _ _ _ h2 g1;have g2:=g1.of_eq e2;have k1:=g1.2
     split at h
     . rename_i hs2
       have e3:=za6 g2.1 (by decide) hs2
       split at h
       . cases h
       rename_i o l3 h3
       obtain ⟨e4,f4,c4⟩:=zep f _ _ _ h3 (g2.tl e3);have k2:l2.tail.length<=4096:=(g2.tl e3).2
       split at h
       . cases h
       rename_i ho
       obtain ⟨rfl,rfl⟩:=vak (vac h);refine ⟨?_,zg4 (za2 (by decide) (by decide)) (by simp) (zek f1) (by omega) f2 (by omega) f4⟩
       have ho':¬ o=[]:=fun h0=>ho (by rw [h0];rfl)
       rw [e,show l.tail=tE x++l1 from e1,e2,e3,show l2.tail=brT (tSs o)++l3 from e4];simp [tS,tEs,zzv,ho']
     . obtain ⟨rfl,rfl⟩:=vak (vac h)
       refine ⟨?_,zg4 (za2 (by decide) (by decide)) (by simp) (zek f1) (by omega) f2 (by simp) zeb⟩
       rw [e,show l.tail=tE x++l1 from e1,e2];simp [tS,tEs,zzv]
   split at h
   . rename_i hs
     have e:=za6 hg.1 (by decide) hs
     split at h
     . cases h
     rename_i x l1 h1
     obtain ⟨e1,f1⟩:=zgh h1 (hg.tl e);have g1:=(hg.tl e).of_eq e1
     split at h
     . cases h
     rename_i b l2 h2
     obtain ⟨e2,f2,c2⟩:=zep f _ _ _ h2 g1;have k1:=g1.2;obtain ⟨rfl,rfl⟩:=vak (vac h);refine ⟨?_,zg4 (za2 (by decide) (by decide)) (by simp) (zek f1) (by omega) f2 (by simp) zeb⟩
     rw [e,show l.tail=tE x++l1 from e1,e2];simp [tS,tEs,zzv]
   split at h
   . rename_i hs
     have e:=za6 hg.1 (by decide) hs
     cases h1:pX l.tail with
     | none=>rw [h1] at h;cases h
     | some p=>
       obtain ⟨x,l1⟩:=p;rw [h1] at h;obtain ⟨e1,f1⟩:=zgh h1 (hg.tl e);obtain ⟨rfl,e2⟩:=zqc h rfl hg (by rw [e,e1];simp [z5d,zt0,tEs]) (by simp [St.op]) (by simp [St.op]);exact ⟨e2,zg4 (za2 (by decide) (by decide)) (by simp) (zek f1) (by simp) zeb (by simp) zeb⟩
   split at h
   . rename_i hs
     have e:=za6 hg.1 (by decide) hs
     cases h1:pX l.tail with
     | none=>rw [h1] at h;cases h
     | some p=>
       obtain ⟨x,l1⟩:=p;rw [h1] at h;obtain ⟨e1,f1⟩:=zgh h1 (hg.tl e);obtain ⟨rfl,e2⟩:=zqc h rfl hg (by rw [e,e1];simp [z5d,zt0,tEs]) (by simp [St.op]) (by simp [St.op]);exact ⟨e2,zg4 (za2 (by decide) (by decide)) (by simp) (zek f1) (by simp) zeb (by simp) zeb⟩
   . obtain ⟨s',l1,hr⟩:=zt1 h
     obtain ⟨e1,f1,h4,h5⟩:=zsb hr hg;rw [vbe] at e1;obtain ⟨rfl,e2⟩:=zqc h hr hg e1 h4 h5;exact ⟨e2,f1⟩
theorem zep:∀ (f:Nat) (l l':List Tk) (b:List St),zb5 f l=some (b,l')->zi0 l->l=brT (tSs b)++l'/\D.fines (zb0 b)/\b.length<=l.length
 | 0,_,_,_,h,_=>by simp [zb5] at h
 | f + 1,l,l',b,h,hg=>by
   unfold zb5 at h
   split at h
   . rename_i hs
     have e:=za6 hg.1 (by decide) hs;have hl:=zar (by decide) hs;have k:=(hg.tl e).2;obtain ⟨e1,f1,c1⟩:=zkl f [] l.tail l' b h (hg.tl e) (by simp at k ⊢;omega) zeb;refine ⟨?_,f1,by simp at c1;omega⟩
     rw [e,show l.tail=tSs b++kTk tRb :: l' from by simpa [tSs] using e1];simp [brT]
   . cases h
theorem zkl:∀ (f:Nat) (acc:List St) (l l':List Tk) (b:List St),zfg f acc l=some (b,l')->zi0 l->acc.length+l.length<=10000->D.fines (zb0 acc)->tSs acc++l=tSs b++kTk tRb :: l'/\D.fines (zb0 b)/\b.length<=acc.length+l.length
 | 0,_,_,_,_,h,_,_,_=>by simp [zfg] at h
 | f + 1,acc,l,l',b,h,hg,hc,hf=>by
   unfold zfg at h
   split at h
   . rename_i hs
     obtain ⟨rfl,rfl⟩:=vak (vac h);exact ⟨by rw [← za6 hg.1 (by decide) hs],hf,by omega⟩
   split at h
   . cases h
   rename_i s l1 h1
   obtain ⟨e1,f1⟩:=zt2 f _ _ _ h1 hg;have hlt:=zqk f _ _ _ h1;obtain ⟨e2,f2,c2⟩:=zkl f (acc++[s]) l1 l' b h (hg.of_eq e1) (by simp;omega) (by rw [zio,zwf];exact D.fines_append hf f1);refine ⟨?_,f2,by simp at c2;omega⟩
   rw [← e2,zor,z6c,e1];simp
end
def z9b (b:Bool):List Tk:=if b then [kTk zdh] else []
theorem zzx {l:List Tk} (hr:zdj l):l=z9b (skB l zdh)++zi7 l:=by
 unfold z9b zi7
 cases h:skB l zdh with
 | true=>exact za6 hr (by decide) h
 | false=>rfl
def tD (d:De):List Tk:=z9b d.pub++(if d.kind=1 then [kTk zrq,wTk d.name,kTk tEq,nTk d.n,kTk zis] else if d.kind=2 then [kTk z7z,wTk d.name,kTk zis] else [kTk zrr,wTk d.name,kTk tLs,nTk d.n,kTk tRs,kTk zis])
theorem zt3 {k n:Int} {nm:ByteArray} {p:Bool} (h1:(Lit.int .i64 k).wf=true) (h2:(Lit.int .i64 n).wf=true):D.fines (De.mk k nm p n).ds:=by
 simp only [De.ds,D.fines,D.fine];exact ⟨h1,trivial,trivial,h2,trivial⟩
theorem zt4 {l l':List Tk} {d:De} (h:zb9 l=some (d,l')) (hg:zi0 l):l=tD d++l'/\D.fines d.ds:=by
 have ep:=zzx hg.1;have gp:=hg.of_eq ep;unfold zb9 at h
 split at h
 . rename_i hs
   have e:=za6 gp.1 (by decide) hs
   split at h
   . cases h
   rename_i n l1 h1
   obtain ⟨e1,n1⟩:=zej (gp.tl e).1 h1;have g1:=(gp.tl e).tl e1
   split at h
   . rename_i hs2
     have e2:=za6 g1.1 (by decide) hs2
     split at h
     . cases h
     rename_i k l2 h2
     obtain ⟨e3,k0,k1⟩:=zty (g1.tl e2).1 h2;have g3:=(g1.tl e2).tl e3
     split at h
     . rename_i hs3
       have e4:=za6 g3.1 (by decide) hs3;obtain ⟨rfl,rfl⟩:=vak (vac h);refine ⟨?_,zt3 (za2 (by decide) (by decide)) (za2 (by omega) (by omega))⟩;refine ep.trans ?_
       rw [e,show (zi7 l).tail=wTk n :: l1 from e1,e2,show l1.tail=nTk k :: l2 from e3,e4];simp [tD]
     . cases h
   . cases h
 split at h
 . rename_i hs
   have e:=za6 gp.1 (by decide) hs
   split at h
   . cases h
   rename_i n l1 h1
   obtain ⟨e1,n1⟩:=zej (gp.tl e).1 h1;have g1:=(gp.tl e).tl e1
   split at h
   . rename_i hs3
     have e4:=za6 g1.1 (by decide) hs3;obtain ⟨rfl,rfl⟩:=vak (vac h);refine ⟨?_,zt3 (za2 (by decide) (by decide)) (za2 (by decide) (by decide))⟩;refine ep.trans ?_
     rw [e,show (zi7 l).tail=wTk n :: l1 from e1,e4];simp [tD]
   . cases h
 split at h
 . rename_i hs
   have e:=za6 gp.1 (by decide) hs
   split at h
   . cases h
   rename_i n l1 h1
   obtain ⟨e1,n1⟩:=zej (gp.tl e).1 h1;have g1:=(gp.tl e).tl e1
   split at h
   . rename_i hs2
     have e2:=za6 g1.1 (by decide) hs2
     split at h
     . cases h
     rename_i k l2 h2
     obtain ⟨e3,k0,k1⟩:=zty (g1.tl e2).1 h2;have g3:=(g1.tl e2).tl e3
     split at h
     . rename_i hs3
       have e4:=za6 g3.1 (by decide) hs3
       split at h
       . rename_i hs4
         have e5:=za6 (g3.tl e4).1 (by decide) hs4;obtain ⟨rfl,rfl⟩:=vak (vac h);refine ⟨?_,zt3 (za2 (by decide) (by decide)) (za2 (by omega) (by omega))⟩;refine ep.trans ?_
         rw [e,show (zi7 l).tail=wTk n :: l1 from e1,e2,show l1.tail=nTk k :: l2 from e3,e4,show l2.tail=kTk zis :: l2.tail.tail from e5];simp [tD]
       . cases h
     . cases h
   . cases h
 . cases h
def zos (ps:List ByteArray):List Tk:=zeo (ps.map (fun n=>[wTk n]))
theorem zi1:∀ (f:Nat) (acc:List ByteArray) (l l':List Tk) (ps:List ByteArray),zdb f acc l=some (ps,l')->zi0 l->acc≠[]->zos acc++l=zos ps++kTk tRp :: l'/\ps.length<=acc.length+l.length
 | 0,_,_,_,_,h,_,_=>by simp [zdb] at h
 | f + 1,acc,l,l',ps,h,hg,hne=>by
   unfold zdb at h
   split at h
   . rename_i hs
     have e:=za6 hg.1 (by decide) hs;have hl:=zar (by decide) hs
     split at h
     . cases h
     rename_i n l1 h1
     obtain ⟨e1,_⟩:=zej (hg.tl e).1 h1;have hlt:=zbt h1;obtain ⟨e2,c2⟩:=zi1 f (acc++[n]) l1 l' ps h ((hg.tl e).tl e1) (by simp);refine ⟨?_,by simp at c2;omega⟩;rw [← e2];unfold zos;rw [vdf,show [n].map (fun n=>[wTk n])=[[wTk n]] from rfl,zid _ _ (by simpa using hne),e,show l.tail=wTk n :: l1 from e1];simp
   split at h
   . rename_i hs
     obtain ⟨rfl,rfl⟩:=vak (vac h);exact ⟨by rw [← za6 hg.1 (by decide) hs],by omega⟩
   . cases h
theorem zt5 {l l':List Tk} {ps:List ByteArray} (h:zik l=some (ps,l')) (hg:zi0 l):l=zos ps++kTk tRp :: l'/\ps.length<=l.length:=by
 unfold zik at h
 split at h
 . rename_i hs
   obtain ⟨rfl,rfl⟩:=vak (vac h);exact ⟨za6 hg.1 (by decide) hs,by simp⟩
 split at h
 . cases h
 rename_i n l1 h1
 obtain ⟨e1,_⟩:=zej hg.1 h1;have hlt:=zbt h1;obtain ⟨e2,c2⟩:=zi1 _ [n] l1 l' ps h (hg.tl e1) (by simp);exact ⟨by rw [e1,← e2];rfl,by simp at c2;omega⟩
def z3d (t:ByteArray) (l:List ByteArray):List Tk:=l.flatMap (fun n=>[kTk t,wTk n,kTk zis])
theorem zif (t:ByteArray) (ht:0<t.size):∀ (f:Nat) (acc:List ByteArray) (l l':List Tk) (ls:List ByteArray),zdc t f acc l=some (ls,l')->zi0 l->z3d t acc++l=z3d t ls++l'/\ls.length<=acc.length+l.length
 | 0,_,_,_,_,h,_=>by simp [zdc] at h
 | f + 1,acc,l,l',ls,h,hg=>by
   unfold zdc at h
   split at h
   . rename_i hs
     have e:=za6 hg.1 ht hs;have hl:=zar ht hs
     split at h
     . cases h
     rename_i n l1 h1
     obtain ⟨e1,_⟩:=zej (hg.tl e).1 h1;have hlt:=zbt h1;have g1:=(hg.tl e).tl e1
     split at h
     . rename_i hs2
       have e2:=za6 g1.1 (by decide) hs2;have hl2:=zar (by decide) hs2;obtain ⟨e3,c3⟩:=zif t ht f (acc++[n]) l1.tail l' ls h (g1.tl e2);refine ⟨?_,by simp at c3 hl2 ⊢;omega⟩;rw [← e3,e,show l.tail=wTk n :: l1 from e1]
       conv=>lhs;rw [e2]
       simp [z3d]
     . cases h
   . obtain ⟨rfl,rfl⟩:=vak (vac h)
     exact ⟨rfl,by omega⟩
def tP (p:Pr):List Tk:=z9b p.pub++kTk z5w :: wTk p.name :: kTk tLp :: (zos p.params++kTk tRp :: (z3d ze1 p.locals++brT (tSs p.body)))
theorem zi2:∀ (l:List ByteArray),D.fines (zao l)
 | []=>zdt
 | x :: r=>by
   show D.fines (.str x :: zao r);simp only [D.fines,D.fine];exact ⟨trivial,zi2 r⟩
theorem z6d {nm:ByteArray} {pb:Bool} {ps ls:List ByteArray} {b:List St} (h1:ps.length<=10000) (h2:ls.length<=10000) (h3:b.length<=10000) (h4:D.fines (zb0 b)):D.fines (Pr.mk nm pb ps ls b).ds:=by
 simp only [Pr.ds,D.fines,D.fine];refine ⟨trivial,trivial,⟨?_,?_,zi2 _⟩,⟨?_,?_,zi2 _⟩,⟨?_,?_,h4⟩,trivial⟩
 . simp [zao]
 . simp [zao];omega
 . simp [zao]
 . simp [zao];omega
 . rw [ze7];omega
 . rw [ze7];omega
theorem zt6 {l l':List Tk} {p:Pr} (h:zf7 l=some (p,l')) (hg:zi0 l):l=tP p++l'/\D.fines p.ds:=by
 have ep:=zzx hg.1;have gp:=hg.of_eq ep;unfold zf7 at h
 split at h
 . rename_i hs
   have e:=za6 gp.1 (by decide) hs
   split at h
   . cases h
   rename_i n l1 h1
   obtain ⟨e1,n1⟩:=zej (gp.tl e).1 h1;have g1:=(gp.tl e).tl e1
   split at h
   . rename_i hs2
     have e2:=za6 g1.1 (by decide) hs2;have g2:=g1.tl e2
     split at h
     . cases h
     rename_i ps l2 h2
     obtain ⟨e3,c3⟩:=zt5 h2 g2;have g3':=g2.of_eq e3;have g3:zi0 l2:=g3'.tl rfl
     split at h
     . cases h
     rename_i ls l3 h3
     obtain ⟨e4,c4⟩:=zif ze1 (by decide) _ [] _ _ _ h3 g3
     have e4':l2=z3d ze1 ls++l3:=by simpa [z3d] using e4
     have g4:=g3.of_eq e4'
     split at h
     . cases h
     rename_i b l4 h4
     obtain ⟨e5,f5,c5⟩:=zep _ _ _ _ h4 g4;obtain ⟨rfl,rfl⟩:=vak (vac h);have k2:l1.tail.length<=4096:=g2.2;have k3:=g3.2;have k4:=g4.2;refine ⟨?_,z6d (by omega) (by simp at c4;omega) (by omega) f5⟩;refine ep.trans ?_
     rw [e,show (zi7 l).tail=wTk n :: l1 from e1,e2,show l1.tail=zos ps++kTk tRp :: l2 from e3,e4',e5];simp [tP]
   . cases h
 . cases h
theorem zkm:∀ (f:Nat) (acc:List De) (l l':List Tk) (ds:List De),zf8 f acc l=some (ds,l')->zi0 l->D.fines (zlf acc)->acc.flatMap tD++l=ds.flatMap tD++l'/\D.fines (zlf ds)/\ds.length<=acc.length+l.length
 | 0,_,_,_,_,h,_,_=>by simp [zf8] at h
 | f + 1,acc,l,l',ds,h,hg,hf=>by
   unfold zf8 at h
   split at h
   . split at h
     . cases h
     rename_i d l1 h1
     obtain ⟨e1,f1⟩:=zt4 h1 hg;have hlt:=zv6 h1;obtain ⟨e2,f2,c2⟩:=zkm f (acc++[d]) l1 l' ds h (hg.of_eq e1) (by rw [show zlf (acc++[d])=zlf acc++d.ds from by simp [zlf]];exact D.fines_append hf f1);refine ⟨?_,f2,by simp at c2;omega⟩
     rw [← e2,e1];simp
   . obtain ⟨rfl,rfl⟩:=vak (vac h)
     exact ⟨rfl,hf,by omega⟩
theorem zkn:∀ (f:Nat) (acc:List Pr) (l l':List Tk) (ps:List Pr),zf9 f acc l=some (ps,l')->zi0 l->D.fines (zjc acc)->acc.flatMap tP++l=ps.flatMap tP++kTk ztk :: l'/\D.fines (zjc ps)/\ps.length<=acc.length+l.length
 | 0,_,_,_,_,h,_,_=>by simp [zf9] at h
 | f + 1,acc,l,l',ps,h,hg,hf=>by
   unfold zf9 at h
   split at h
   . rename_i hs
     obtain ⟨rfl,rfl⟩:=vak (vac h);exact ⟨by rw [← za6 hg.1 (by decide) hs],hf,by omega⟩
   . split at h
     . cases h
     rename_i p l1 h1
     obtain ⟨e1,f1⟩:=zt6 h1 hg;have hlt:=zv8 h1;obtain ⟨e2,f2,c2⟩:=zkn f (acc++[p]) l1 l' ps h (hg.of_eq e1) (by rw [show zjc (acc++[p])=zjc acc++p.ds from by simp [zjc]];exact D.fines_append hf f1);refine ⟨?_,f2,by simp at c2;omega⟩
     rw [← e2,e1];simp
def tM (m:Mo):List Tk:=kTk zpr :: wTk m.name :: kTk tLb :: (z3d zvj m.uses++(m.decls.flatMap tD++(m.procs.flatMap tP++kTk ztk :: (brT (tSs m.main)++[kTk tRb]))))
structure Fine (m:Mo):Prop where
 uses:m.uses.length<=10000
 decls:m.decls.length<=10000
 procs:m.procs.length<=10000
 main:m.main.length<=10000
 fd:D.fines (zlf m.decls)
 fp:D.fines (zjc m.procs)
 fm:D.fines (zb0 m.main)
theorem zqd {l l':List Tk} {m:Mo} (h:zcu l=some (m,l')) (hg:zi0 l):l=tM m++l'/\Fine m:=by
 unfold zcu at h
 split at h
 . rename_i hs
   have e:=za6 hg.1 (by decide) hs
   split at h
   . cases h
   rename_i n l1 h1
   obtain ⟨e1,n1⟩:=zej (hg.tl e).1 h1;have g1:=(hg.tl e).tl e1
   split at h
   . rename_i hs2
     have e2:=za6 g1.1 (by decide) hs2;have g2:=g1.tl e2;have k2:l1.tail.length<=4096:=g2.2
     split at h
     . cases h
     rename_i us l2 h2
     obtain ⟨e3,c3⟩:=zif zvj (by decide) _ [] _ _ _ h2 g2
     have e3':l1.tail=z3d zvj us++l2:=by simpa [z3d] using e3
     have g3:=g2.of_eq e3';have k3:=g3.2
     split at h
     . cases h
     rename_i ds l3 h3
     obtain ⟨e4,f4,c4⟩:=zkm _ [] _ _ _ h3 g3 zdt
     have e4':l2=ds.flatMap tD++l3:=by simpa using e4
     have g4:=g3.of_eq e4';have k4:=g4.2
     split at h
     . cases h
     rename_i ps l4 h4
     obtain ⟨e5,f5,c5⟩:=zkn _ [] _ _ _ h4 g4 zdt
     have e5':l3=ps.flatMap tP++kTk ztk :: l4:=by simpa using e5
     have g5:zi0 l4:=(g4.of_eq e5').tl rfl;have k5:=g5.2
     split at h
     . cases h
     rename_i b l5 h5
     obtain ⟨e6,f6,c6⟩:=zep _ _ _ _ h5 g5;have g6:=g5.of_eq e6
     split at h
     . rename_i hs3
       have e7:=za6 g6.1 (by decide) hs3;obtain ⟨rfl,rfl⟩:=vak (vac h);refine ⟨?_,⟨by show us.length<=10000;simp at c3 k2;omega,by show ds.length<=10000;simp at c4;omega,by show ps.length<=10000;simp at c5;omega,by show b.length<=10000;omega,f4,f5,f6⟩⟩
       rw [e,show l.tail=wTk n :: l1 from e1,e2,e3',e4',e5',e6,e7];simp [tM]
     . cases h
   . cases h
 . cases h
inductive exOk:Ex->Prop
 | mk {op n:Int} {m nm:ByteArray} {args:List Ex} (h1:exB op=true) (h2:zdl (exS op) m nm=true) (h3:nOk (exS op) n=true) (h4:zbg (exS op) args.length=true) (h5:∀ a ∈ args,exOk a):exOk (.mk op n m nm args)
theorem z8c:∀ (k:Nat) (l:List Ex),zbh k l=true->zax k l=false->zbq k l=true->∀ x ∈ l,exOk x
 | 0,l,_,h2,_,x,hx=>by
   simp [zax] at h2;rw [h2] at hx;cases hx
 | k+1,l,h1,h2,h3,x,hx=>by
   simp only [zbh,vax] at h1;simp only [zax,vay] at h2;simp only [zbq,vax] at h3;have a1:=h1 x hx;have a3:=h3 x hx
   have a2:zax k x.args=false:=by
    have:=h2.2;rw [vcj] at this;simpa using this x hx
   simp only [vad] at a1 a3;obtain ⟨op,n,m,nm,args⟩:=x;exact .mk a1.1 a3.1 a3.2.1 a3.2.2.1 (z8c k args a1.2 a2 a3.2.2.2)
theorem zzy {α:Type} {l:List α} (h:decide (0<l.length)=false):l=[]:=vao (by have:=of_decide_eq_false h;omega)
inductive stOk:St->Prop
 | mk {op:Int} {m nm:ByteArray} {args:List Ex} {body other:List St} (h1:stB op=true) (h2:zdl (stS op) m nm=true) (h3:zbg (stS op) args.length=true) (h4:∀ a ∈ args,exOk a) (h5:(stS op).body=true\/body=[]) (h6:(stS op).other=true\/other=[]) (h7:∀ s ∈ body,stOk s) (h8:∀ s ∈ other,stOk s):stOk (.mk op m nm args body other)
theorem z6e:∀ (k:Nat) (l:List St),zay k l=true->zan k l=false->zaz k l=true->∀ s ∈ l,stOk s
 | 0,l,_,h2,_,x,hx=>by simp [zan] at h2
 | k + 1,l,h1,h2,h3,x,hx=>by
   simp only [zay,vax] at h1;simp only [zan,vay] at h2;simp only [zaz,vax] at h3;have a1:=h1 x hx;have a3:=h3 x hx;have a2:=h2.2;rw [vcj] at a2;have a2:=a2 x hx;simp only [vad] at a1 a3;simp only [vdc,vay,vcp] at a2;obtain ⟨op,m,nm,args,body,other⟩:=x
   have hb:(stS op).body=true\/body=[]:=by
    have:=a3.2.2.2.1;simp [St.op,St.body] at this;exact this
   have ho:(stS op).other=true\/other=[]:=by
    have:=a3.2.2.2.2.1;simp [St.op,St.other] at this;exact this
   have hbm:body=[]\/zan k body=false:=by
    rcases a2.2.1 with h | h
    . left
      simp [St.op,St.body] at h;exact zzy h.2
    . exact Or.inr h
   have hom:other=[]\/zan k other=false:=by
    rcases a2.2.2 with h | h
    . left
      exact zzy h
    . exact Or.inr h
   refine .mk a1.1 a3.1 a3.2.1 (z8c 6 args a1.2.1 a2.1 a3.2.2.1) hb ho ?_ ?_
   . rcases hbm with h | h
     . rw [h];intro s hs;cases hs
     . exact z6e k body a1.2.2.1 h a3.2.2.2.2.2.1
   . rcases hom with h | h
     . rw [h];intro s hs;cases hs
     . exact z6e k other a1.2.2.2 h a3.2.2.2.2.2.2
structure moOk (m:Mo):Prop where
 name:nameOk m.name=true
 uses:∀ u ∈ m.uses,nameOk u=true
 decls:∀ d ∈ m.decls,nameOk d.name=true/\ze3 d=true/\1<=d.kind/\d.kind<=3
 procs:∀ p ∈ m.procs,nameOk p.name=true/\(∀ n ∈ p.params,nameOk n=true)/\(∀ n ∈ p.locals,nameOk n=true)/\(∀ s ∈ p.body,stOk s)
 main:∀ s ∈ m.main,stOk s
theorem zv0 {m:Mo} (h:m.err=0):m.kinds=true/\m.many=false/\m.form=true:=by
 unfold Mo.err at h
 cases hk:m.kinds with
 | false=>rw [hk] at h;simp at h
 | true=>
   rw [hk] at h
   cases hm:m.many with
   | true=>rw [hm] at h;simp at h
   | false=>
     rw [hm] at h
     cases hf:m.form with
     | false=>rw [hf] at h;simp at h
     | true=>exact ⟨rfl,rfl,rfl⟩
theorem z9x {m:Mo} (h:m.err=0):moOk m:=by
 obtain ⟨hk,hm,hf⟩:=zv0 h;unfold Mo.kinds at hk;unfold Mo.many at hm;unfold Mo.form at hf;simp only [vad,vax,decide_eq_true_eq] at hk hf;simp only [vay] at hm;have hmb:=hm.2.2.2.2;rw [vcj] at hmb
 have body:∀ b ∈ m.bodies,∀ s ∈ b,stOk s:=fun b hb=>z6e 6 b (hk.2 b hb) (by simpa using hmb b hb) (hf.2.2.2.2 b hb)
 exact {
  name:=hf.1
  uses:=hf.2.1
  decls:=fun d hd=>⟨(hf.2.2.1 d hd).1,(hf.2.2.1 d hd).2,hk.1 d hd⟩
  procs:=fun p hp=>⟨(hf.2.2.2.1 p hp).1,(hf.2.2.2.1 p hp).2.1,(hf.2.2.2.1 p hp).2.2,body p.body (by unfold Mo.bodies;simp;exact Or.inl ⟨p,hp,rfl⟩)⟩
  main:=body m.main (by unfold Mo.bodies;simp) }
theorem zdj.append {a b:List Tk} (h:zdj a) (k:zdj b):zdj (a++b):=⟨by rw [vch,h.1,k.1];rfl,by rw [vch,h.2,k.2];rfl⟩
theorem zdj.cons {t:Tk} {b:List Tk} (h:zdj [t]) (k:zdj b):zdj (t :: b):=zdj.append (a:=[t]) h k
theorem zdj.nil:zdj []:=⟨rfl,rfl⟩
end Go.Proofs.YtndkhgakfodldaaGreatDoor
