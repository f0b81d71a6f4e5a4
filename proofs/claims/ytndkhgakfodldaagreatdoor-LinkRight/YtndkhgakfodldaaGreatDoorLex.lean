import Derived.Test.YtndkhgakfodldaaGreatDoorStep
import Derived.Test.YtndkhgakfodldaaGreatDoorPj
namespace Go.Proofs.YtndkhgakfodldaaGreatDoor
set_option maxRecDepth 100000
set_option maxHeartbeats 400000
open Go.RowKit
theorem z4q (s:ByteArray) (w:World) (hs:s.size<=maxLen) :
 qc 114 #[.string s] w fun e w'=>∃ a cap,e = .returned (.tuple #[.slice a (lexT s).length cap,qi (lexE s)])/\zc2 w' a (lexT s)/\qb w w':=by
 unfold maxLen at hs
 by_cases Ja:4096<s.size
 . have HE:Hid (lexT s=[]/\lexE s=2):=z1e Ja
   go_enter Tryz.func114,Tryz.ntmps114;go_wp2_with fail;go_ret2;exact ⟨none,0,by rw [HE.out.1,HE.out.2];rfl,by rw [HE.out.1];exact Or.inl rfl,Below.refl _ _⟩
 . have HC:Hid (qc 157 #[.string s] w fun e w'=>∃ a cap,e = .returned (.tuple #[.slice a (lexT s).length cap,qi (lexE s)])/\zc2 w' a (lexT s)/\qb w w'):=zwh s w (by omega)
   generalize lexT s=ts at *;generalize lexE s=n at *;go_enter Tryz.func114,Tryz.ntmps114;go_wp2_with fail;refine HC.out.mono ?_;rintro e w2 ⟨a,cap,rfl,hT,hb⟩;have HT:Hid (zc2 w2 a ts):=hT;clear hT HC;go_wp2_with fail;go_ret2;exact ⟨a,cap,rfl,HT.out,hb⟩
def z65:Nat->ByteArray->Nat->Option (List Tk)
 | 0,s,a=>if a<s.size then none else some []
 | f + 1,s,a=>
   if h:a<s.size then
    if zeq s[a] then z65 f s (a+Lx.pieceN s a)
    else match zc0 (s.extract a (a+Lx.pieceN s a)) with
     | none=>none
     | some t=>(z65 f s (a+Lx.pieceN s a)).map (t :: ·)
   else some []
theorem zxz:∀ (f:Nat) (s:ByteArray) (a:Nat),s.size - a<=f->z65 f s a=zdf s a
 | 0,s,a,h=>by rw [zkl s a (by omega)];unfold z65;rw [if_neg (by omega)]
 | f+1,s,a,h=>by
   have hp:=Lx.zgj s a;have ih:=zxz f s (a+Lx.pieceN s a) (by omega);rw [zdf,z65,ih]
   cases zc0 (s.extract a (a+Lx.pieceN s a))<;>rfl
def zhl (l:L8):Nat:=if Lx.z6s l=0 then 1 else Lx.z6s l
theorem zmw (l:L8):0<zhl l:=by unfold zhl;split<;>omega
def zw8:L8->Option (List Tk)
 | []=>some []
 | c :: l=>
   if zeq c then zw8 ((c :: l).drop (zhl (c :: l)))
   else match zc0 (strOf ((c :: l).take (zhl (c :: l)))) with
    | none=>none
    | some t=>(zw8 ((c :: l).drop (zhl (c :: l)))).map (t :: ·)
termination_by l=>l.length
decreasing_by
 all_goals have:=zmw (c :: l);simp only [vbv,vav];omega
theorem zr7 (s:ByteArray) (a n:Nat):s.extract a (a+n)=strOf ((s.data.toList.drop a).take n):=by
 rw [← zvt,strOf_back]
theorem zvv:∀ (n:Nat) (s:ByteArray) (a:Nat),s.size - a=n->zdf s a=zw8 (s.data.toList.drop a):=by
 intro n
 induction n using Nat.strongRecOn with
 | _ n ih=>
   intro s a hn
   by_cases h:a<s.size
   . have hd:=zxw s a h
     have hp:Lx.pieceN s a=zhl (s.data.toList.drop a):=rfl;have FI:=Lx.zgj s a;have NQ:=ih (s.size - (a+Lx.pieceN s a)) (by omega) s (a+Lx.pieceN s a) rfl
     have KH:s.data.toList.drop (a+Lx.pieceN s a)=(s.data.toList.drop a).drop (Lx.pieceN s a):=by rw [List.drop_drop]
     cases hb:zeq s[a] with
     | true=>
       rw [zkm s a h hb,NQ,KH,hp,hd,zw8,if_pos hb]
     | false=>
       have he:=zr7 s a (Lx.pieceN s a)
       cases ht:zc0 (s.extract a (a+Lx.pieceN s a)) with
       | none=>
         rw [zmu s a h hb ht];rw [he,hp,hd] at ht;rw [hd,zw8,if_neg (by simp [hb]),ht]
       | some t=>
         rw [zmv s a t h hb ht,NQ,KH];rw [he,hp,hd] at ht;rw [hp,hd,zw8,if_neg (by simp [hb]),ht]
   . rw [zkl s a h,vct (by rw [Lx.zaz];omega),zw8]
theorem zvw (s:ByteArray):zdf s 0=zw8 s.data.toList:=by
 have:=zvv _ s 0 rfl;rwa [List.drop_zero] at this
theorem zr8 {s:ByteArray} {t:Tk} (h:zc0 s=some t):zea t=true/\Tk.okB t=true:=by
 unfold zc0 at h
 split at h
 . rename_i hs
   cases h;exact ⟨rfl,by unfold Tk.okB;simp [hs]⟩
 . split at h
   . rename_i hn
     cases h;exact ⟨rfl,by unfold Tk.okB;simp [hn]⟩
   . split at h
     . rename_i hk
       cases h;refine ⟨rfl,?_⟩
       have hv:Lx.valL s.data.toList<=1099511627775:=by unfold Lx.zgr at hk;simp at hk;exact hk.2
       unfold Tk.okB;rw [vax];simp;omega
     . cases h
theorem zvx:∀ (n:Nat) (l:L8) (ts:List Tk),l.length=n->zw8 l=some ts->zcx ts/\ts.length<=l.length:=by
 intro n
 induction n using Nat.strongRecOn with
 | _ n ih=>
   intro l ts hn h
   cases l with
   | nil=>rw [zw8] at h;cases h;exact ⟨⟨rfl,rfl⟩,vaa _⟩
   | cons c r=>
     have FI:=zmw (c :: r)
     have Ah:((c :: r).drop (zhl (c :: r))).length<n:=by rw [vbv];simp at hn ⊢;omega
     rw [zw8] at h
     split at h
     . obtain ⟨h1,h2⟩:=ih _ Ah _ ts rfl h
       exact ⟨h1,by omega⟩
     . cases ht:zc0 (strOf ((c :: r).take (zhl (c :: r)))) with
       | none=>rw [ht] at h;cases h
       | some t=>
         rw [ht] at h
         cases hr:zw8 ((c :: r).drop (zhl (c :: r))) with
         | none=>rw [hr] at h;cases h
         | some us=>
           rw [hr] at h;cases h;obtain ⟨h1,h2⟩:=ih _ Ah _ us rfl hr;obtain ⟨hk,ho⟩:=zr8 ht;refine ⟨⟨?_,?_⟩,?_⟩
           . rw [vcr,hk,h1.1];rfl
           . rw [vcr,ho,h1.2];rfl
           . simp only [vav] at *;omega
def kTk (t:ByteArray):Tk:=⟨if Lx.zby t.data.toList then 1 else 3,0,t⟩
def wTk (t:ByteArray):Tk:=⟨1,0,t⟩
def nTk (n:Int):Tk:=⟨2,n,⟨#[]⟩⟩
theorem zx0 {l:L8} (h:Lx.zjm l=true):Lx.zby l=false:=by
 match l,h with
 | [c],h=>
   have h':Lx.signs.contains c=true:=h
   have Cy:∀ c ∈ Lx.signs,Lx.zby [c]=false:=by decide
   exact Cy c (vce.1 h')
theorem zcx.of_app {a b:List Tk} (h:zcx (a++b)):zcx b:=by
 obtain ⟨h1,h2⟩:=h;rw [vbm,vac] at h1 h2;exact ⟨h1.2,h2.2⟩
theorem zcx.head {t:Tk} {b:List Tk} (h:zcx (t :: b)):zea t=true/\Tk.okB t=true:=by
 obtain ⟨h1,h2⟩:=h;rw [vcr,vac] at h1 h2;exact ⟨h1.1,h2.1⟩
theorem zcx.of_eq {a b c:List Tk} (h:zcx a) (e:a=b++c):zcx c:=by rw [e] at h;exact h.of_app
theorem zmx {s t:ByteArray} (h:s.toList=t.toList):s=t:=by
 rw [vax,vax] at h;exact ByteArray.ext (Array.ext' h)
theorem zay {l:List Tk} {t:ByteArray} (hr:zcx l) (ht:0<t.size) (h:skB l t=true):l=kTk t :: l.tail:=by
 cases l with
 | nil=>exact absurd rfl (zxg ht h)
 | cons x r=>
   obtain ⟨hk,ho⟩:=hr.head;obtain ⟨k,n,s⟩:=x;have hs:s=t:=zmx (beq_iff_eq.1 h);subst hs;show Tk.mk k n s :: r=kTk s :: r
   have Ak:s.toList.isEmpty=false:=by
    cases he:s.toList.isEmpty with
    | false=>rfl
    | true=>
      rw [vax] at he;have h1:=Lx.zaz s;rw [List.isEmpty_iff.1 he] at h1;simp at h1;omega
   unfold zea at hk;simp only [vac,decide_eq_true_eq] at hk;unfold Tk.okB at ho
   have MF:k=1\/k=2\/k=3:=by omega
   rcases MF with rfl | rfl | rfl
   . simp at ho
     unfold kTk
     rw [ho.1,ho.2];rfl
   . simp [Ak] at ho
   . simp at ho
     unfold kTk
     rw [ho.1,zx0 ho.2];rfl
theorem z1f (s:ByteArray):zn3 s=zqz s:=by
 unfold zn3 zqz;rw [vax];show z4j.any _=kept.contains _;rw [vcj,List.any_eq_true,vce]
 constructor
 . rintro ⟨x,hx,h⟩
   rw [beq_iff_eq.1 h];exact hx
 . intro h
   exact ⟨_,h,beq_self_eq_true _⟩
theorem zdq {l l':List Tk} {a:ByteArray} (hr:zcx l) (h:zde l=some (a,l')):l=wTk a :: l'/\nameOk a=true:=by
 unfold zde at h
 split at h
 . rename_i hk
   obtain ⟨rfl,rfl⟩:=vao (vab h);simp only [vac,beq_iff_eq,Bool.not_eq_true'] at hk
   cases l with
   | nil=>exact absurd hk.1 (by decide)
   | cons x r=>
     obtain ⟨_,ho⟩:=hr.head;obtain ⟨k,n,s⟩:=x;have e1:k=1:=hk.1;have e2:zn3 s=false:=hk.2;subst e1;unfold Tk.okB at ho;simp at ho;have e3:n=0:=ho.1;subst e3;refine ⟨rfl,?_⟩;show nameOk s=true;unfold nameOk
     rw [← z1f,e2,ho.2];rfl
 . cases h
theorem zr9 {l l':List Tk} {a:Int} (hr:zcx l) (h:pNum l=some (a,l')):l=nTk a :: l'/\0<=a/\a<=1099511627775:=by
 unfold pNum at h
 split at h
 . rename_i hk
   obtain ⟨rfl,rfl⟩:=vao (vab h)
   cases l with
   | nil=>exact absurd hk (by decide)
   | cons x r=>
     obtain ⟨_,ho⟩:=hr.head;obtain ⟨k,n,s⟩:=x;have e1:k=2:=hk;subst e1;unfold Tk.okB at ho;simp at ho
     have e2:s=⟨#[]⟩:=by
      apply zmx
      rw [ho.1,vax]
     subst e2;exact ⟨rfl,ho.2⟩
 . cases h
def z3x (m n:ByteArray):List Tk:=if m.size=0 then [wTk n] else [wTk m,kTk z4i,wTk n]
theorem z1g {s:ByteArray} (h:nameOk s=true):0<s.size:=by
 rcases vda s.size with h0 | h0
 . exfalso
   have:s.data.toList=[]:=vak (by rw [Lx.zaz];exact h0);unfold nameOk at h;rw [this] at h;simp [Lx.zby,Lx.zox] at h
 . exact h0
theorem zx1 {l l':List Tk} {m n:ByteArray} (hr:zcx l) (h:zw7 l=some ((m,n),l')):l=z3x m n++l'/\nameOk n=true/\(m.size=0\/nameOk m=true):=by
 unfold zw7 at h
 split at h
 . cases h
 rename_i a l1 h1
 obtain ⟨e1,n1⟩:=zdq hr h1;have r1:zcx l1:=hr.of_eq (b:=[wTk a]) e1
 split at h
 . rename_i hs
   have e2:=zay r1 (by decide) hs
   split at h
   . cases h
   rename_i b l2 h2
   obtain ⟨e3,n3⟩:=zdq (r1.of_eq (b:=[kTk z4i]) e2) h2;obtain ⟨h3,rfl⟩:=vao (vab h);obtain ⟨rfl,rfl⟩:=vao h3;refine ⟨?_,n3,Or.inr n1⟩;unfold z3x
   rw [if_neg (by have:=z1g n1;omega),e1,e2,show l1.tail=wTk b :: l2 from e3];rfl
 . obtain ⟨h3,rfl⟩:=vao (vab h)
   obtain ⟨rfl,rfl⟩:=vao h3;exact ⟨e1,n1,Or.inl rfl⟩
def z8e (op:Int):Tk:=kTk (opTexts.getD (op - 7).toNat ⟨#[]⟩)
def zdu:List (List Tk)->List Tk
 | []=>[]
 | [x]=>x
 | x :: y :: r=>x++kTk z06 :: zdu (y :: r)
def exTok (op n:Int) (m nm:ByteArray) (xs:List (List Tk)):List Tk:=
 if op=1 then [nTk n] else if op=2 then [kTk tIn] else if op=3 then z3x m nm
 else if op=4 then z3x m nm++kTk tLs :: (xs.getD 0 []++[kTk tRs])
 else if op=5 then z3x m nm++kTk tLp :: (zdu xs++[kTk tRp])
 else if op=6 then kTk z6z :: xs.getD 0 []
 else kTk tLp :: (xs.getD 0 []++z8e op :: (xs.getD 1 []++[kTk tRp]))
mutual
def tE:Ex->List Tk
 | .mk op n m nm args=>exTok op n m nm (tEs args)
def tEs:List Ex->List (List Tk)
 | []=>[]
 | x :: r=>tE x :: tEs r
end
theorem zmy:∀ (a b:List Ex),tEs (a++b)=tEs a++tEs b
 | [],b=>by simp [tEs]
 | x :: r,b=>by simp [tEs,zmy r b]
theorem zx2:∀ (a:List Ex),(tEs a).length=a.length
 | []=>by simp [tEs]
 | x :: r=>by simp [tEs,zx2 r]
theorem zg3:∀ (a:List (List Tk)) (x:List Tk),a≠[]->zdu (a++[x])=zdu a++kTk z06 :: x
 | [],_,h=>absurd rfl h
 | [y],x,_=>by simp [zdu]
 | y :: z :: r,x,_=>by
   have:=zg3 (z :: r) x (by simp);show y++kTk z06 :: zdu ((z :: r)++[x])=(y++kTk z06 :: zdu (z :: r))++kTk z06 :: x
   rw [this];simp
theorem zav {n:Int} (h0 : -9223372036854775808<=n) (h1:n<=9223372036854775807):(Lit.int .i64 n).wf=true:=by
 have e1:IntKind.i64.min = -9223372036854775808:=by decide
 have e2:IntKind.i64.max=9223372036854775807:=by decide
 simp [Lit.wf,e1,e2];omega
theorem zhm:∀ (l:List Ex),(zbo l).length=5*l.length
 | []=>by simp [zbo]
 | x :: r=>by
   have:=x.ds_len
   simp [zbo,zhm r,this];omega
theorem zeb:∀ (l:List St),(zbp l).length=6*l.length
 | []=>by simp [zbp]
 | x :: r=>by
   have:=x.ds_len
   simp [zbp,zeb r,this];omega
theorem zg4 {op n:Int} {m nm:ByteArray} {args:List Ex} (h1:(Lit.int .i64 op).wf=true) (h2:(Lit.int .i64 n).wf=true) (h3:args.length<=10000) (h4:D.fines (zbo args)):D.fines (Ex.mk op n m nm args).ds:=by
 unfold Ex.ds;simp only [D.fines,D.fine];refine ⟨h1,h2,trivial,trivial,⟨?_,?_,h4⟩,trivial⟩
 . rw [zhm];omega
 . rw [zhm];omega
theorem zc3:D.fines []:=by unfold D.fines;trivial
theorem zdr {x:Ex} (h:D.fines x.ds):D.fines (zbo [x]):=by rw [zjz];exact h
theorem zud {x y:Ex} (h:D.fines x.ds) (k:D.fines y.ds):D.fines (zbo [x,y]):=by
 show D.fines (x.ds++(y.ds++[]));exact D.fines_append h (D.fines_append k zc3)
theorem z1h {l:List Tk} {k:Nat} (hr:zcx l) (h:zxf l=some k):l=z8e (7+k) :: l.tail/\k<9:=by
 unfold zxf at h;obtain ⟨hk,h2,_⟩:=vbo.1 h
 have hp:0<(opTexts[k]).size:=by
  have:∀ x ∈ opTexts,0<x.size:=by decide
  exact this _ (vaj hk)
 refine ⟨?_,hk⟩;have e:=zay hr hp h2;unfold z8e;rw [show ((7:Int)+(k:Int) - 7).toNat=k from by omega,vay,vae hk];exact e
def zhn (l:List Tk):Prop:=zcx l/\l.length<=4096
theorem zhn.of_eq {a b c:List Tk} (h:zhn a) (e:a=b++c):zhn c:=⟨h.1.of_eq e,by have:=h.2;rw [e,vam] at this;omega⟩
theorem zhn.tl {a c:List Tk} {t:Tk} (h:zhn a) (e:a=t :: c):zhn c:=h.of_eq (b:=[t]) e
mutual
theorem zcm:∀ (f:Nat) (l l':List Tk) (x:Ex),zbm f l=some (x,l')->zhn l->l=tE x++l'/\D.fines x.ds
 | 0,_,_,_,h,_=>by simp [zbm] at h
 | f + 1,l,l',x,h,hg=>by
   unfold zbm at h
   split at h
   . rename_i hk
     obtain ⟨rfl,rfl⟩:=vao (vab h)
     have hn:pNum l=some ((hd l).n,l.tail):=by unfold pNum;rw [if_pos hk]
     obtain ⟨e,h0,h1⟩:=zr9 hg.1 hn;exact ⟨by simpa [tE,exTok] using e,zg4 (zav (by decide) (by decide)) (zav (by omega) (by omega)) (by simp) (by unfold zbo;exact zc3)⟩
   split at h
   . rename_i hs
     obtain ⟨rfl,rfl⟩:=vao (vab h);exact ⟨by simpa [tE,exTok] using zay hg.1 (by decide) hs,zg4 (zav (by decide) (by decide)) (zav (by decide) (by decide)) (by simp) (by unfold zbo;exact zc3)⟩
   split at h
   . rename_i hs
     have e:=zay hg.1 (by decide) hs
     split at h
     . cases h
     rename_i y l1 h1
     obtain ⟨rfl,rfl⟩:=vao (vab h);obtain ⟨e1,f1⟩:=zcm f _ _ _ h1 (hg.tl e);refine ⟨?_,zg4 (zav (by decide) (by decide)) (zav (by decide) (by decide)) (by simp) (zdr f1)⟩
     rw [e,show l.tail=tE y++l1 from e1];simp [tE,tEs,exTok]
   split at h
   . rename_i hs
     have e:=zay hg.1 (by decide) hs;obtain ⟨e1,f1⟩:=zsa f _ _ _ h (hg.tl e);exact ⟨e.trans e1,f1⟩
   split at h
   . cases h
   rename_i m nm l1 h1
   obtain ⟨e1,n1,n2⟩:=zx1 hg.1 h1;have g1:=hg.of_eq e1
   split at h
   . rename_i hs
     have e2:=zay g1.1 (by decide) hs
     split at h
     . cases h
     rename_i y l2 h2
     obtain ⟨e3,f3⟩:=zcm f _ _ _ h2 (g1.tl e2)
     split at h
     . rename_i AB
       have e4:=zay ((g1.tl e2).of_eq e3).1 (by decide) AB;obtain ⟨rfl,rfl⟩:=vao (vab h);refine ⟨?_,zg4 (zav (by decide) (by decide)) (zav (by decide) (by decide)) (by simp) (zdr f3)⟩
       rw [e1,e2,show l1.tail=tE y++l2 from e3,e4];simp [tE,tEs,exTok]
     . cases h
   split at h
   . rename_i hs
     have e2:=zay g1.1 (by decide) hs
     split at h
     . cases h
     rename_i ys l2 h2
     obtain ⟨e3,f3,c3⟩:=zko f _ _ _ h2 (g1.tl e2);obtain ⟨rfl,rfl⟩:=vao (vab h);have Ci:l1.tail.length<=4096:=(g1.tl e2).2;refine ⟨?_,zg4 (zav (by decide) (by decide)) (zav (by decide) (by decide)) (by omega) f3⟩
     rw [e1,e2,show l1.tail=zdu (tEs ys)++kTk tRp :: l2 from e3];simp [tE,exTok]
   . obtain ⟨rfl,rfl⟩:=vao (vab h)
     refine ⟨?_,zg4 (zav (by decide) (by decide)) (zav (by decide) (by decide)) (by simp) (by unfold zbo;exact zc3)⟩
     rw [e1];simp [tE,exTok]
theorem zsa:∀ (f:Nat) (l l':List Tk) (x:Ex),zfz f l=some (x,l')->zhn l->kTk tLp :: l=tE x++l'/\D.fines x.ds
 | 0,_,_,_,h,_=>by simp [zfz] at h
 | f + 1,l,l',x,h,hg=>by
   unfold zfz at h
   split at h
   . cases h
   rename_i a l1 h1
   obtain ⟨e1,f1⟩:=zcm f _ _ _ h1 hg;have g1:=hg.of_eq e1
   split at h
   . cases h
   rename_i k hk
   obtain ⟨e2,k9⟩:=z1h g1.1 hk
   split at h
   . cases h
   rename_i b l2 h2
   obtain ⟨e3,f3⟩:=zcm f _ _ _ h2 (g1.tl e2)
   split at h
   . rename_i hs
     have e4:=zay ((g1.tl e2).of_eq e3).1 (by decide) hs;obtain ⟨rfl,rfl⟩:=vao (vab h);refine ⟨?_,zg4 (zav (by omega) (by omega)) (zav (by decide) (by decide)) (by simp) (zud f1 f3)⟩
     have Br:∀ xs,exTok (7+(k:Int)) 0 ⟨#[]⟩ ⟨#[]⟩ xs=kTk tLp :: (xs.getD 0 []++z8e (7+k) :: (xs.getD 1 []++[kTk tRp])):=by
      intro xs;unfold exTok;rw [if_neg (by omega),if_neg (by omega),if_neg (by omega),if_neg (by omega),if_neg (by omega),if_neg (by omega)]
     rw [e1,e2,show l1.tail=tE b++l2 from e3,e4];simp only [tE,Br,tEs];simp
   . cases h
theorem zko:∀ (f:Nat) (l l':List Tk) (xs:List Ex),zeg f l=some (xs,l')->zhn l->l=zdu (tEs xs)++kTk tRp :: l'/\D.fines (zbo xs)/\xs.length<=l.length
 | 0,_,_,_,h,_=>by simp [zeg] at h
 | f + 1,l,l',xs,h,hg=>by
   unfold zeg at h
   split at h
   . rename_i hs
     obtain ⟨rfl,rfl⟩:=vao (vab h);exact ⟨by simpa [tEs,zdu] using zay hg.1 (by decide) hs,by unfold zbo;exact zc3,by simp⟩
   split at h
   . cases h
   rename_i x l1 h1
   obtain ⟨e1,f1⟩:=zcm f _ _ _ h1 hg;have A4:=zci f _ _ _ h1;obtain ⟨e2,f2,c2⟩:=zkp f [x] l1 l' xs h (hg.of_eq e1) (by simp) (by have:=hg.2;simp;omega) (zdr f1);refine ⟨?_,f2,by simp at c2;omega⟩
   rw [e1,← e2];simp [tEs,zdu]
theorem zkp:∀ (f:Nat) (A5:List Ex) (l l':List Tk) (xs:List Ex),zgq f A5 l=some (xs,l')->zhn l->A5≠[]->A5.length+l.length<=10000->D.fines (zbo A5)->zdu (tEs A5)++l=zdu (tEs xs)++kTk tRp :: l'/\D.fines (zbo xs)/\xs.length<=A5.length+l.length
 | 0,_,_,_,_,h,_,_,_,_=>by simp [zgq] at h
 | f + 1,A5,l,l',xs,h,hg,Ak,hc,hf=>by
   unfold zgq at h
   split at h
   . rename_i hs
     have e:=zay hg.1 (by decide) hs;have hl:=zah (by decide) hs
     split at h
     . cases h
     rename_i x l1 h1
     obtain ⟨e1,f1⟩:=zcm f _ _ _ h1 (hg.tl e);have A4:=zci f _ _ _ h1;obtain ⟨e2,f2,c2⟩:=zkp f (A5++[x]) l1 l' xs h ((hg.tl e).of_eq e1) (by simp) (by simp;omega) (by rw [zhf];exact D.fines_append hf (zdr f1));refine ⟨?_,f2,by simp at c2;omega⟩;rw [← e2,zmy,show tEs [x]=[tE x] from by simp [tEs],zg3 _ _ (by intro h0;apply Ak;have:=zx2 A5;rw [h0] at this;exact vak this.symm),e,show l.tail=tE x++l1 from e1];simp
   split at h
   . rename_i hs
     obtain ⟨rfl,rfl⟩:=vao (vab h);exact ⟨by rw [← zay hg.1 (by decide) hs],hf,by omega⟩
   . cases h
end
def zsb (op:Int) (m nm:ByteArray) (xs:List (List Tk)):List Tk:=
 if op=1 then z3x m nm++kTk tEq :: xs.getD 0 []
 else if op=2 then z3x m nm++kTk tLs :: (xs.getD 0 []++kTk tRs :: kTk tEq :: xs.getD 1 [])
 else if op=3 then z3x m nm++kTk tLp :: (zdu xs++[kTk tRp])
 else if op=6 then kTk zfh :: xs.getD 0 [] else kTk z3s :: xs.getD 0 []
def brT (x:List Tk):List Tk:=kTk tLb :: (x++[kTk tRb])
def zx3 (op:Int) (m nm:ByteArray) (xs:List (List Tk)) (b o:List Tk) (k:Nat):List Tk:=
 if op=4 then kTk tIf :: (xs.getD 0 []++(brT b++(if k=0 then [] else kTk zrt :: brT o)))
 else if op=5 then kTk zgw :: (xs.getD 0 []++brT b)
 else zsb op m nm xs++[kTk zhj]
mutual
def tS:St->List Tk
 | .mk op m nm args body other=>zx3 op m nm (tEs args) (tSs body) (tSs other) other.length
def tSs:List St->List Tk
 | []=>[]
 | s :: r=>tS s++tSs r
end
theorem zmz:∀ (a b:List St),tSs (a++b)=tSs a++tSs b
 | [],b=>by simp [tSs]
 | x :: r,b=>by simp [tSs,zmz r b]
theorem z4r (s:St):tSs [s]=tS s:=by simp [tSs]
theorem zf2 {op:Int} {m nm:ByteArray} {args:List Ex} {body other:List St} (h1:(Lit.int .i64 op).wf=true) (h3:args.length<=10000) (h4:D.fines (zbo args)) (h5:body.length<=10000) (h6:D.fines (zbp body)) (h7:other.length<=10000) (h8:D.fines (zbp other)):D.fines (St.mk op m nm args body other).ds:=by
 unfold St.ds;simp only [D.fines,D.fine];refine ⟨h1,trivial,trivial,⟨?_,?_,h4⟩,⟨?_,?_,h6⟩,⟨?_,?_,h8⟩,trivial⟩
 . rw [zhm];omega
 . rw [zhm];omega
 . rw [zeb];omega
 . rw [zeb];omega
 . rw [zeb];omega
 . rw [zeb];omega
theorem zdj:D.fines (zbp []):=by unfold zbp;exact zc3
theorem zfi {l l':List Tk} {x:Ex} (h:pX l=some (x,l')) (hg:zhn l):l=tE x++l'/\D.fines x.ds:=zcm _ _ _ _ h hg
theorem zx4 {l l':List Tk} {xs:List Ex} (h:pAs l=some (xs,l')) (hg:zhn l):l=zdu (tEs xs)++kTk tRp :: l'/\D.fines (zbo xs)/\xs.length<=l.length:=zko _ _ _ _ h hg
def z3y:St->List Tk
 | .mk op m nm args _ _=>zsb op m nm (tEs args)
theorem zp8 {l l':List Tk} {s:St} (h:zbr l=some (s,l')) (hg:zhn l):l++[]=z3y s++l'/\D.fines s.ds/\s.op≠4/\s.op≠5:=by
 unfold zbr at h
 split at h
 . cases h
 rename_i m nm l1 h1
 obtain ⟨e1,n1,n2⟩:=zx1 hg.1 h1;have g1:=hg.of_eq e1
 split at h
 . rename_i hs
   have e2:=zay g1.1 (by decide) hs
   split at h
   . cases h
   rename_i x l2 h2
   obtain ⟨e3,f3⟩:=zfi h2 (g1.tl e2);obtain ⟨rfl,rfl⟩:=vao (vab h);refine ⟨?_,zf2 (zav (by decide) (by decide)) (by simp) (zdr f3) (by simp) zdj (by simp) zdj,by simp [St.op],by simp [St.op]⟩
   rw [vcl,e1,e2,show l1.tail=tE x++l2 from e3];simp [z3y,tEs,zsb]
 split at h
 . rename_i hs
   have e2:=zay g1.1 (by decide) hs
   split at h
   . cases h
   rename_i x l2 h2
   obtain ⟨e3,f3⟩:=zfi h2 (g1.tl e2);have g3:=(g1.tl e2).of_eq e3
   split at h
   . rename_i AB
     have e4:=zay g3.1 (by decide) AB
     split at h
     . rename_i Bj
       have e5:=zay (g3.tl e4).1 (by decide) Bj
       split at h
       . cases h
       rename_i y l3 h3
       obtain ⟨e6,f6⟩:=zfi h3 ((g3.tl e4).tl e5);obtain ⟨rfl,rfl⟩:=vao (vab h);refine ⟨?_,zf2 (zav (by decide) (by decide)) (by simp) (zud f3 f6) (by simp) zdj (by simp) zdj,by simp [St.op],by simp [St.op]⟩
       rw [vcl,e1,e2,show l1.tail=tE x++l2 from e3,e4,show l2.tail=kTk tEq :: l2.tail.tail from e5,show l2.tail.tail=tE y++l3 from e6];simp [z3y,tEs,zsb]
     . cases h
   . cases h
 split at h
 . rename_i hs
   have e2:=zay g1.1 (by decide) hs
   split at h
   . cases h
   rename_i xs l2 h2
   obtain ⟨e3,f3,c3⟩:=zx4 h2 (g1.tl e2);have Ci:l1.tail.length<=4096:=(g1.tl e2).2;obtain ⟨rfl,rfl⟩:=vao (vab h);refine ⟨?_,zf2 (zav (by decide) (by decide)) (by omega) f3 (by simp) zdj (by simp) zdj,by simp [St.op],by simp [St.op]⟩
   rw [vcl,e1,e2,show l1.tail=zdu (tEs xs)++kTk tRp :: l2 from e3];simp [z3y,zsb]
 . cases h
theorem zoe {l l1 l2:List Tk} {s s':St} {r:Option (St × List Tk)} (h:zdt r=some (s,l2)) (hr:r=some (s',l1)) (hg:zhn l) (e:l=z3y s'++l1) (h4:s'.op≠4) (h5:s'.op≠5):s=s'/\l=tS s'++l2:=by
 subst hr;unfold zdt at h;simp only at h
 split at h
 . rename_i hs
   have e1:=zay (hg.of_eq e).1 (by decide) hs;obtain ⟨rfl,rfl⟩:=vao (vab h);refine ⟨rfl,?_⟩;obtain ⟨op,m,nm,args,body,other⟩:=s';have MB:¬ op=4:=h4;have Mz:¬ op=5:=h5;rw [e,e1];simp [z3y,tS,zx3,MB,Mz]
 . cases h
theorem zsc {r:Option (St × List Tk)} {s:St} {l:List Tk} (h:zdt r=some (s,l)):∃ s' l1,r=some (s',l1):=by
 cases r with
 | none=>cases h
 | some p=>exact ⟨p.1,p.2,rfl⟩
mutual
theorem zsd:∀ (f:Nat) (l l':List Tk) (s:St),zce f l=some (s,l')->zhn l->l=tS s++l'/\D.fines s.ds
 | 0,_,_,_,h,_=>by simp [zce] at h
 | f + 1,l,l',s,h,hg=>by
   unfold zce at h
   split at h
   . rename_i hs
     have e:=zay hg.1 (by decide) hs
     split at h
     . cases h
     rename_i x l1 h1
     obtain ⟨e1,f1⟩:=zfi h1 (hg.tl e);have g1:=(hg.tl e).of_eq e1
     split at h
     . cases h
     rename_i b l2 h2
     obtain ⟨e2,f2,c2⟩:=zdv f _ _ _ h2 g1;have g2:=g1.of_eq e2;have k1:=g1.2
     split at h
     . rename_i AB
       have e3:=zay g2.1 (by decide) AB
       split at h
       . cases h
       rename_i o l3 h3
       obtain ⟨e4,f4,c4⟩:=zdv f _ _ _ h3 (g2.tl e3);have k2:l2.tail.length<=4096:=(g2.tl e3).2
       split at h
       . cases h
       rename_i ho
       obtain ⟨rfl,rfl⟩:=vao (vab h);refine ⟨?_,zf2 (zav (by decide) (by decide)) (by simp) (zdr f1) (by omega) f2 (by omega) f4⟩
       have Ep:¬ o=[]:=fun h0=>ho (by rw [h0];rfl)
       rw [e,show l.tail=tE x++l1 from e1,e2,e3,show l2.tail=brT (tSs o)++l3 from e4];simp [tS,tEs,zx3,Ep]
     . obtain ⟨rfl,rfl⟩:=vao (vab h)
       refine ⟨?_,zf2 (zav (by decide) (by decide)) (by simp) (zdr f1) (by omega) f2 (by simp) zdj⟩
       rw [e,show l.tail=tE x++l1 from e1,e2];simp [tS,tEs,zx3]
   split at h
   . rename_i hs
     have e:=zay hg.1 (by decide) hs
     split at h
     . cases h
     rename_i x l1 h1
     obtain ⟨e1,f1⟩:=zfi h1 (hg.tl e);have g1:=(hg.tl e).of_eq e1
     split at h
     . cases h
     rename_i b l2 h2
     obtain ⟨e2,f2,c2⟩:=zdv f _ _ _ h2 g1;have k1:=g1.2;obtain ⟨rfl,rfl⟩:=vao (vab h);refine ⟨?_,zf2 (zav (by decide) (by decide)) (by simp) (zdr f1) (by omega) f2 (by simp) zdj⟩
     rw [e,show l.tail=tE x++l1 from e1,e2];simp [tS,tEs,zx3]
   split at h
   . rename_i hs
     have e:=zay hg.1 (by decide) hs
     cases h1:pX l.tail with
     | none=>rw [h1] at h;cases h
     | some p=>
       obtain ⟨x,l1⟩:=p;rw [h1] at h;obtain ⟨e1,f1⟩:=zfi h1 (hg.tl e);obtain ⟨rfl,e2⟩:=zoe h rfl hg (by rw [e,e1];simp [z3y,zsb,tEs]) (by simp [St.op]) (by simp [St.op]);exact ⟨e2,zf2 (zav (by decide) (by decide)) (by simp) (zdr f1) (by simp) zdj (by simp) zdj⟩
   split at h
   . rename_i hs
     have e:=zay hg.1 (by decide) hs
     cases h1:pX l.tail with
     | none=>rw [h1] at h;cases h
     | some p=>
       obtain ⟨x,l1⟩:=p;rw [h1] at h;obtain ⟨e1,f1⟩:=zfi h1 (hg.tl e);obtain ⟨rfl,e2⟩:=zoe h rfl hg (by rw [e,e1];simp [z3y,zsb,tEs]) (by simp [St.op]) (by simp [St.op]);exact ⟨e2,zf2 (zav (by decide) (by decide)) (by simp) (zdr f1) (by simp) zdj (by simp) zdj⟩
   . obtain ⟨s',l1,hr⟩:=zsc h
     obtain ⟨e1,f1,h4,h5⟩:=zp8 hr hg;rw [vcl] at e1;obtain ⟨rfl,e2⟩:=zoe h hr hg e1 h4 h5;exact ⟨e2,f1⟩
theorem zdv:∀ (f:Nat) (l l':List Tk) (b:List St),zbt f l=some (b,l')->zhn l->l=brT (tSs b)++l'/\D.fines (zbp b)/\b.length<=l.length
 | 0,_,_,_,h,_=>by simp [zbt] at h
 | f + 1,l,l',b,h,hg=>by
   unfold zbt at h
   split at h
   . rename_i hs
     have e:=zay hg.1 (by decide) hs;have hl:=zah (by decide) hs;have k:=(hg.tl e).2;obtain ⟨e1,f1,c1⟩:=zi5 f [] l.tail l' b h (hg.tl e) (by simp at k ⊢;omega) zdj;refine ⟨?_,f1,by simp at c1;omega⟩
     rw [e,show l.tail=tSs b++kTk tRb :: l' from by simpa [tSs] using e1];simp [brT]
   . cases h
theorem zi5:∀ (f:Nat) (A5:List St) (l l':List Tk) (b:List St),zeh f A5 l=some (b,l')->zhn l->A5.length+l.length<=10000->D.fines (zbp A5)->tSs A5++l=tSs b++kTk tRb :: l'/\D.fines (zbp b)/\b.length<=A5.length+l.length
 | 0,_,_,_,_,h,_,_,_=>by simp [zeh] at h
 | f + 1,A5,l,l',b,h,hg,hc,hf=>by
   unfold zeh at h
   split at h
   . rename_i hs
     obtain ⟨rfl,rfl⟩:=vao (vab h);exact ⟨by rw [← zay hg.1 (by decide) hs],hf,by omega⟩
   split at h
   . cases h
   rename_i s l1 h1
   obtain ⟨e1,f1⟩:=zsd f _ _ _ h1 hg;have A4:=zot f _ _ _ h1;obtain ⟨e2,f2,c2⟩:=zi5 f (A5++[s]) l1 l' b h (hg.of_eq e1) (by simp;omega) (by rw [zhg,zu0];exact D.fines_append hf f1);refine ⟨?_,f2,by simp at c2;omega⟩
   rw [← e2,zmz,z4r,e1];simp
end
def z8f (b:Bool):List Tk:=if b then [kTk zcu] else []
theorem zx5 {l:List Tk} (hr:zcx l):l=z8f (skB l zcu)++zhw l:=by
 unfold z8f zhw
 cases h:skB l zcu with
 | true=>exact zay hr (by decide) h
 | false=>rfl
def tD (d:De):List Tk:=z8f d.pub++(if d.kind=1 then [kTk zpy,wTk d.name,kTk tEq,nTk d.n,kTk zhj] else if d.kind=2 then [kTk z6y,wTk d.name,kTk zhj] else [kTk zpz,wTk d.name,kTk tLs,nTk d.n,kTk tRs,kTk zhj])
theorem zse {k n:Int} {nm:ByteArray} {p:Bool} (h1:(Lit.int .i64 k).wf=true) (h2:(Lit.int .i64 n).wf=true):D.fines (De.mk k nm p n).ds:=by
 simp only [De.ds,D.fines,D.fine];exact ⟨h1,trivial,trivial,h2,trivial⟩
theorem zsf {l l':List Tk} {d:De} (h:zbw l=some (d,l')) (hg:zhn l):l=tD d++l'/\D.fines d.ds:=by
 have ep:=zx5 hg.1;have gp:=hg.of_eq ep;unfold zbw at h
 split at h
 . rename_i hs
   have e:=zay gp.1 (by decide) hs
   split at h
   . cases h
   rename_i n l1 h1
   obtain ⟨e1,n1⟩:=zdq (gp.tl e).1 h1;have g1:=(gp.tl e).tl e1
   split at h
   . rename_i AB
     have e2:=zay g1.1 (by decide) AB
     split at h
     . cases h
     rename_i k l2 h2
     obtain ⟨e3,k0,k1⟩:=zr9 (g1.tl e2).1 h2;have g3:=(g1.tl e2).tl e3
     split at h
     . rename_i Bj
       have e4:=zay g3.1 (by decide) Bj;obtain ⟨rfl,rfl⟩:=vao (vab h);refine ⟨?_,zse (zav (by decide) (by decide)) (zav (by omega) (by omega))⟩;refine ep.trans ?_
       rw [e,show (zhw l).tail=wTk n :: l1 from e1,e2,show l1.tail=nTk k :: l2 from e3,e4];simp [tD]
     . cases h
   . cases h
 split at h
 . rename_i hs
   have e:=zay gp.1 (by decide) hs
   split at h
   . cases h
   rename_i n l1 h1
   obtain ⟨e1,n1⟩:=zdq (gp.tl e).1 h1;have g1:=(gp.tl e).tl e1
   split at h
   . rename_i Bj
     have e4:=zay g1.1 (by decide) Bj;obtain ⟨rfl,rfl⟩:=vao (vab h);refine ⟨?_,zse (zav (by decide) (by decide)) (zav (by decide) (by decide))⟩;refine ep.trans ?_
     rw [e,show (zhw l).tail=wTk n :: l1 from e1,e4];simp [tD]
   . cases h
 split at h
 . rename_i hs
   have e:=zay gp.1 (by decide) hs
   split at h
   . cases h
   rename_i n l1 h1
   obtain ⟨e1,n1⟩:=zdq (gp.tl e).1 h1;have g1:=(gp.tl e).tl e1
   split at h
   . rename_i AB
     have e2:=zay g1.1 (by decide) AB
     split at h
     . cases h
     rename_i k l2 h2
     obtain ⟨e3,k0,k1⟩:=zr9 (g1.tl e2).1 h2;have g3:=(g1.tl e2).tl e3
     split at h
     . rename_i Bj
       have e4:=zay g3.1 (by decide) Bj
       split at h
       . rename_i CE
         have e5:=zay (g3.tl e4).1 (by decide) CE;obtain ⟨rfl,rfl⟩:=vao (vab h);refine ⟨?_,zse (zav (by decide) (by decide)) (zav (by omega) (by omega))⟩;refine ep.trans ?_
         rw [e,show (zhw l).tail=wTk n :: l1 from e1,e2,show l1.tail=nTk k :: l2 from e3,e4,show l2.tail=kTk zhj :: l2.tail.tail from e5];simp [tD]
       . cases h
     . cases h
   . cases h
 . cases h
def zm0 (ps:List ByteArray):List Tk:=zdu (ps.map (fun n=>[wTk n]))
theorem zho:∀ (f:Nat) (A5:List ByteArray) (l l':List Tk) (ps:List ByteArray),zcp f A5 l=some (ps,l')->zhn l->A5≠[]->zm0 A5++l=zm0 ps++kTk tRp :: l'/\ps.length<=A5.length+l.length
 | 0,_,_,_,_,h,_,_=>by simp [zcp] at h
 | f + 1,A5,l,l',ps,h,hg,Ak=>by
   unfold zcp at h
   split at h
   . rename_i hs
     have e:=zay hg.1 (by decide) hs;have hl:=zah (by decide) hs
     split at h
     . cases h
     rename_i n l1 h1
     obtain ⟨e1,_⟩:=zdq (hg.tl e).1 h1;have A4:=zbk h1;obtain ⟨e2,c2⟩:=zho f (A5++[n]) l1 l' ps h ((hg.tl e).tl e1) (by simp);refine ⟨?_,by simp at c2;omega⟩;rw [← e2];unfold zm0;rw [vbr,show [n].map (fun n=>[wTk n])=[[wTk n]] from rfl,zg3 _ _ (by simpa using Ak),e,show l.tail=wTk n :: l1 from e1];simp
   split at h
   . rename_i hs
     obtain ⟨rfl,rfl⟩:=vao (vab h);exact ⟨by rw [← zay hg.1 (by decide) hs],by omega⟩
   . cases h
theorem zsg {l l':List Tk} {ps:List ByteArray} (h:zhc l=some (ps,l')) (hg:zhn l):l=zm0 ps++kTk tRp :: l'/\ps.length<=l.length:=by
 unfold zhc at h
 split at h
 . rename_i hs
   obtain ⟨rfl,rfl⟩:=vao (vab h);exact ⟨zay hg.1 (by decide) hs,by simp⟩
 split at h
 . cases h
 rename_i n l1 h1
 obtain ⟨e1,_⟩:=zdq hg.1 h1;have A4:=zbk h1;obtain ⟨e2,c2⟩:=zho _ [n] l1 l' ps h (hg.tl e1) (by simp);exact ⟨by rw [e1,← e2];rfl,by simp at c2;omega⟩
def z1i (t:ByteArray) (l:List ByteArray):List Tk:=l.flatMap (fun n=>[kTk t,wTk n,kTk zhj])
theorem zg5 (t:ByteArray) (ht:0<t.size):∀ (f:Nat) (A5:List ByteArray) (l l':List Tk) (ls:List ByteArray),zcq t f A5 l=some (ls,l')->zhn l->z1i t A5++l=z1i t ls++l'/\ls.length<=A5.length+l.length
 | 0,_,_,_,_,h,_=>by simp [zcq] at h
 | f + 1,A5,l,l',ls,h,hg=>by
   unfold zcq at h
   split at h
   . rename_i hs
     have e:=zay hg.1 ht hs;have hl:=zah ht hs
     split at h
     . cases h
     rename_i n l1 h1
     obtain ⟨e1,_⟩:=zdq (hg.tl e).1 h1;have A4:=zbk h1;have g1:=(hg.tl e).tl e1
     split at h
     . rename_i AB
       have e2:=zay g1.1 (by decide) AB;have Cb:=zah (by decide) AB;obtain ⟨e3,c3⟩:=zg5 t ht f (A5++[n]) l1.tail l' ls h (g1.tl e2);refine ⟨?_,by simp at c3 Cb ⊢;omega⟩;rw [← e3,e,show l.tail=wTk n :: l1 from e1]
       conv=>lhs;rw [e2]
       simp [z1i]
     . cases h
   . obtain ⟨rfl,rfl⟩:=vao (vab h)
     exact ⟨rfl,by omega⟩
def tP (p:Pr):List Tk:=z8f p.pub++kTk z4h :: wTk p.name :: kTk tLp :: (zm0 p.params++kTk tRp :: (z1i zd6 p.locals++brT (tSs p.body)))
theorem zhp:∀ (l:List ByteArray),D.fines (zaj l)
 | []=>zc3
 | x :: r=>by
   show D.fines (.str x :: zaj r);simp only [D.fines,D.fine];exact ⟨trivial,zhp r⟩
theorem z4s {nm:ByteArray} {pb:Bool} {ps ls:List ByteArray} {b:List St} (h1:ps.length<=10000) (h2:ls.length<=10000) (h3:b.length<=10000) (h4:D.fines (zbp b)):D.fines (Pr.mk nm pb ps ls b).ds:=by
 simp only [Pr.ds,D.fines,D.fine];refine ⟨trivial,trivial,⟨?_,?_,zhp _⟩,⟨?_,?_,zhp _⟩,⟨?_,?_,h4⟩,trivial⟩
 . simp [zaj]
 . simp [zaj];omega
 . simp [zaj]
 . simp [zaj];omega
 . rw [zeb];omega
 . rw [zeb];omega
theorem zsh {l l':List Tk} {p:Pr} (h:ze8 l=some (p,l')) (hg:zhn l):l=tP p++l'/\D.fines p.ds:=by
 have ep:=zx5 hg.1;have gp:=hg.of_eq ep;unfold ze8 at h
 split at h
 . rename_i hs
   have e:=zay gp.1 (by decide) hs
   split at h
   . cases h
   rename_i n l1 h1
   obtain ⟨e1,n1⟩:=zdq (gp.tl e).1 h1;have g1:=(gp.tl e).tl e1
   split at h
   . rename_i AB
     have e2:=zay g1.1 (by decide) AB;have g2:=g1.tl e2
     split at h
     . cases h
     rename_i ps l2 h2
     obtain ⟨e3,c3⟩:=zsg h2 g2;have R5:=g2.of_eq e3;have g3:zhn l2:=R5.tl rfl
     split at h
     . cases h
     rename_i ls l3 h3
     obtain ⟨e4,c4⟩:=zg5 zd6 (by decide) _ [] _ _ _ h3 g3
     have JA:l2=z1i zd6 ls++l3:=by simpa [z1i] using e4
     have g4:=g3.of_eq JA
     split at h
     . cases h
     rename_i b l4 h4
     obtain ⟨e5,f5,c5⟩:=zdv _ _ _ _ h4 g4;obtain ⟨rfl,rfl⟩:=vao (vab h);have k2:l1.tail.length<=4096:=g2.2;have k3:=g3.2;have k4:=g4.2;refine ⟨?_,z4s (by omega) (by simp at c4;omega) (by omega) f5⟩;refine ep.trans ?_
     rw [e,show (zhw l).tail=wTk n :: l1 from e1,e2,show l1.tail=zm0 ps++kTk tRp :: l2 from e3,JA,e5];simp [tP]
   . cases h
 . cases h
theorem zi6:∀ (f:Nat) (A5:List De) (l l':List Tk) (ds:List De),ze9 f A5 l=some (ds,l')->zhn l->D.fines (zj0 A5)->A5.flatMap tD++l=ds.flatMap tD++l'/\D.fines (zj0 ds)/\ds.length<=A5.length+l.length
 | 0,_,_,_,_,h,_,_=>by simp [ze9] at h
 | f + 1,A5,l,l',ds,h,hg,hf=>by
   unfold ze9 at h
   split at h
   . split at h
     . cases h
     rename_i d l1 h1
     obtain ⟨e1,f1⟩:=zsf h1 hg;have A4:=zur h1;obtain ⟨e2,f2,c2⟩:=zi6 f (A5++[d]) l1 l' ds h (hg.of_eq e1) (by rw [show zj0 (A5++[d])=zj0 A5++d.ds from by simp [zj0]];exact D.fines_append hf f1);refine ⟨?_,f2,by simp at c2;omega⟩
     rw [← e2,e1];simp
   . obtain ⟨rfl,rfl⟩:=vao (vab h)
     exact ⟨rfl,hf,by omega⟩
theorem zi7:∀ (f:Nat) (A5:List Pr) (l l':List Tk) (ps:List Pr),zfa f A5 l=some (ps,l')->zhn l->D.fines (zhz A5)->A5.flatMap tP++l=ps.flatMap tP++kTk zrs :: l'/\D.fines (zhz ps)/\ps.length<=A5.length+l.length
 | 0,_,_,_,_,h,_,_=>by simp [zfa] at h
 | f + 1,A5,l,l',ps,h,hg,hf=>by
   unfold zfa at h
   split at h
   . rename_i hs
     obtain ⟨rfl,rfl⟩:=vao (vab h);exact ⟨by rw [← zay hg.1 (by decide) hs],hf,by omega⟩
   . split at h
     . cases h
     rename_i p l1 h1
     obtain ⟨e1,f1⟩:=zsh h1 hg;have A4:=zut h1;obtain ⟨e2,f2,c2⟩:=zi7 f (A5++[p]) l1 l' ps h (hg.of_eq e1) (by rw [show zhz (A5++[p])=zhz A5++p.ds from by simp [zhz]];exact D.fines_append hf f1);refine ⟨?_,f2,by simp at c2;omega⟩
     rw [← e2,e1];simp
def tM (m:Mo):List Tk:=kTk zn2 :: wTk m.name :: kTk tLb :: (z1i zt0 m.uses++(m.decls.flatMap tD++(m.procs.flatMap tP++kTk zrs :: (brT (tSs m.main)++[kTk tRb]))))
structure Fine (m:Mo):Prop where
 uses:m.uses.length<=10000
 decls:m.decls.length<=10000
 procs:m.procs.length<=10000
 main:m.main.length<=10000
 fd:D.fines (zj0 m.decls)
 fp:D.fines (zhz m.procs)
 fm:D.fines (zbp m.main)
theorem zof {l l':List Tk} {m:Mo} (h:zcc l=some (m,l')) (hg:zhn l):l=tM m++l'/\Fine m:=by
 unfold zcc at h
 split at h
 . rename_i hs
   have e:=zay hg.1 (by decide) hs
   split at h
   . cases h
   rename_i n l1 h1
   obtain ⟨e1,n1⟩:=zdq (hg.tl e).1 h1;have g1:=(hg.tl e).tl e1
   split at h
   . rename_i AB
     have e2:=zay g1.1 (by decide) AB;have g2:=g1.tl e2;have k2:l1.tail.length<=4096:=g2.2
     split at h
     . cases h
     rename_i us l2 h2
     obtain ⟨e3,c3⟩:=zg5 zt0 (by decide) _ [] _ _ _ h2 g2
     have ON:l1.tail=z1i zt0 us++l2:=by simpa [z1i] using e3
     have g3:=g2.of_eq ON;have k3:=g3.2
     split at h
     . cases h
     rename_i ds l3 h3
     obtain ⟨e4,f4,c4⟩:=zi6 _ [] _ _ _ h3 g3 zc3
     have JA:l2=ds.flatMap tD++l3:=by simpa using e4
     have g4:=g3.of_eq JA;have k4:=g4.2
     split at h
     . cases h
     rename_i ps l4 h4
     obtain ⟨e5,f5,c5⟩:=zi7 _ [] _ _ _ h4 g4 zc3
     have OM:l3=ps.flatMap tP++kTk zrs :: l4:=by simpa using e5
     have g5:zhn l4:=(g4.of_eq OM).tl rfl;have k5:=g5.2
     split at h
     . cases h
     rename_i b l5 h5
     obtain ⟨e6,f6,c6⟩:=zdv _ _ _ _ h5 g5;have g6:=g5.of_eq e6
     split at h
     . rename_i Bj
       have e7:=zay g6.1 (by decide) Bj;obtain ⟨rfl,rfl⟩:=vao (vab h);refine ⟨?_,⟨by show us.length<=10000;simp at c3 k2;omega,by show ds.length<=10000;simp at c4;omega,by show ps.length<=10000;simp at c5;omega,by show b.length<=10000;omega,f4,f5,f6⟩⟩
       rw [e,show l.tail=wTk n :: l1 from e1,e2,ON,JA,OM,e6,e7];simp [tM]
     . cases h
   . cases h
 . cases h
inductive exOk:Ex->Prop
 | mk {op n:Int} {m nm:ByteArray} {args:List Ex} (h1:exB op=true) (h2:zcy (exS op) m nm=true) (h3:nOk (exS op) n=true) (h4:zbb (exS op) args.length=true) (h5:∀ a ∈ args,exOk a):exOk (.mk op n m nm args)
theorem z66:∀ (k:Nat) (l:List Ex),zbc k l=true->zan k l=false->zbh k l=true->∀ x ∈ l,exOk x
 | 0,l,_,h2,_,x,hx=>by
   simp [zan] at h2;rw [h2] at hx;cases hx
 | k+1,l,h1,h2,h3,x,hx=>by
   simp only [zbc,vas] at h1;simp only [zan,vat] at h2;simp only [zbh,vas] at h3;have a1:=h1 x hx;have a3:=h3 x hx
   have a2:zan k x.args=false:=by
    have:=h2.2;rw [vbw] at this;simpa using this x hx
   simp only [vac] at a1 a3;obtain ⟨op,n,m,nm,args⟩:=x;exact .mk a1.1 a3.1 a3.2.1 a3.2.2.1 (z66 k args a1.2 a2 a3.2.2.2)
theorem zx6 {α:Type} {l:List α} (h:decide (0<l.length)=false):l=[]:=vak (by have:=of_decide_eq_false h;omega)
inductive stOk:St->Prop
 | mk {op:Int} {m nm:ByteArray} {args:List Ex} {body other:List St} (h1:stB op=true) (h2:zcy (stS op) m nm=true) (h3:zbb (stS op) args.length=true) (h4:∀ a ∈ args,exOk a) (h5:(stS op).body=true\/body=[]) (h6:(stS op).other=true\/other=[]) (h7:∀ s ∈ body,stOk s) (h8:∀ s ∈ other,stOk s):stOk (.mk op m nm args body other)
theorem z4t:∀ (k:Nat) (l:List St),zas k l=true->zaf k l=false->zat k l=true->∀ s ∈ l,stOk s
 | 0,l,_,h2,_,x,hx=>by simp [zaf] at h2
 | k + 1,l,h1,h2,h3,x,hx=>by
   simp only [zas,vas] at h1;simp only [zaf,vat] at h2;simp only [zat,vas] at h3;have a1:=h1 x hx;have a3:=h3 x hx;have a2:=h2.2;rw [vbw] at a2;have a2:=a2 x hx;simp only [vac] at a1 a3;simp only [vcs,vat,vdf] at a2;obtain ⟨op,m,nm,args,body,other⟩:=x
   have hb:(stS op).body=true\/body=[]:=by
    have:=a3.2.2.2.1;simp [St.op,St.body] at this;exact this
   have ho:(stS op).other=true\/other=[]:=by
    have:=a3.2.2.2.2.1;simp [St.op,St.other] at this;exact this
   have QL:body=[]\/zaf k body=false:=by
    rcases a2.2.1 with h | h
    . left
      simp [St.op,St.body] at h;exact zx6 h.2
    . exact Or.inr h
   have Qc:other=[]\/zaf k other=false:=by
    rcases a2.2.2 with h | h
    . left
      exact zx6 h
    . exact Or.inr h
   refine .mk a1.1 a3.1 a3.2.1 (z66 6 args a1.2.1 a2.1 a3.2.2.1) hb ho ?_ ?_
   . rcases QL with h | h
     . rw [h];intro s hs;cases hs
     . exact z4t k body a1.2.2.1 h a3.2.2.2.2.2.1
   . rcases Qc with h | h
     . rw [h];intro s hs;cases hs
     . exact z4t k other a1.2.2.2 h a3.2.2.2.2.2.2
structure moOk (m:Mo):Prop where
 name:nameOk m.name=true
 uses:∀ u ∈ m.uses,nameOk u=true
 decls:∀ d ∈ m.decls,nameOk d.name=true/\zd8 d=true/\1<=d.kind/\d.kind<=3
 procs:∀ p ∈ m.procs,nameOk p.name=true/\(∀ n ∈ p.params,nameOk n=true)/\(∀ n ∈ p.locals,nameOk n=true)/\(∀ s ∈ p.body,stOk s)
 main:∀ s ∈ m.main,stOk s
theorem zue {m:Mo} (h:m.err=0):m.kinds=true/\m.many=false/\m.form=true:=by
 unfold Mo.err at h
 cases hk:m.kinds with
 | false=>rw [hk] at h;simp at h
 | true=>
   rw [hk] at h
   cases hm:m.many with
   | true=>rw [hm] at h;simp at h
   | false=>
     rw [hm] at h
     cases hf:m.form with
     | false=>rw [hf] at h;simp at h
     | true=>exact ⟨rfl,rfl,rfl⟩
theorem z8t {m:Mo} (h:m.err=0):moOk m:=by
 obtain ⟨hk,hm,hf⟩:=zue h;unfold Mo.kinds at hk;unfold Mo.many at hm;unfold Mo.form at hf;simp only [vac,vas,decide_eq_true_eq] at hk hf;simp only [vat] at hm;have O9:=hm.2.2.2.2;rw [vbw] at O9
 have body:∀ b ∈ m.bodies,∀ s ∈ b,stOk s:=fun b hb=>z4t 6 b (hk.2 b hb) (by simpa using O9 b hb) (hf.2.2.2.2 b hb)
 exact {
  name:=hf.1
  uses:=hf.2.1
  decls:=fun d hd=>⟨(hf.2.2.1 d hd).1,(hf.2.2.1 d hd).2,hk.1 d hd⟩
  procs:=fun p hp=>⟨(hf.2.2.2.1 p hp).1,(hf.2.2.2.1 p hp).2.1,(hf.2.2.2.1 p hp).2.2,body p.body (by unfold Mo.bodies;simp;exact Or.inl ⟨p,hp,rfl⟩)⟩
  main:=body m.main (by unfold Mo.bodies;simp) }
theorem zcx.append {a b:List Tk} (h:zcx a) (k:zcx b):zcx (a++b):=⟨by rw [vbm,h.1,k.1];rfl,by rw [vbm,h.2,k.2];rfl⟩
theorem zcx.cons {t:Tk} {b:List Tk} (h:zcx [t]) (k:zcx b):zcx (t :: b):=zcx.append (a:=[t]) h k
theorem zcx.nil:zcx []:=⟨rfl,rfl⟩
end Go.Proofs.YtndkhgakfodldaaGreatDoor
