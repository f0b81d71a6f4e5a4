/-
  The program's Lex answers the tokens of the text or its error; the comparison of two lists of the same tokens answers true.
-/
import Derived.Test.YtndkhgakfodldaaGreatDoorStep
import Derived.Deep.QuietTactic
import Derived.BigQuiet
import Derived.Test.YtndkhgakfodldaaGreatDoorPj
import Derived.Test.YtndkhgakfodldaaGreatDoorTd
namespace Go.Proofs.YtndkhgakfodldaaGreatDoor
set_option maxRecDepth 100000
set_option maxHeartbeats 400000
open Go.RowKit
theorem z3i (s:ByteArray) (w:World) (hs:s.size<=maxLen) :
 Calls Tryz.prog 114 #[.string s] w fun e w'=>∃ a cap,e = .returned (.tuple #[.slice a (lexT s).length cap,.int .i64 (lexE s)])/\zde w' a (lexT s)/\Below w.heap.size w w':=by
 unfold maxLen at hs
 by_cases hlong:4096<s.size
 . have HE:Hid (lexT s=[]/\lexE s=2):=z0n hlong
   go_enter Tryz.func114,Tryz.ntmps114;go_wp2_with fail;go_ret2;exact ⟨none,0,by rw [HE.out.1,HE.out.2];rfl,by rw [HE.out.1];exact Or.inl rfl,vez _ _⟩
 . have HC:Hid (Calls Tryz.prog 157 #[.string s] w fun e w'=>∃ a cap,e = .returned (.tuple #[.slice a (lexT s).length cap,.int .i64 (lexE s)])/\zde w' a (lexT s)/\Below w.heap.size w w'):=zvq s w (by omega)
   generalize lexT s=ts at *;generalize lexE s=n at *;go_enter Tryz.func114,Tryz.ntmps114;go_wp2_with fail;refine HC.out.mono ?_;rintro e w2 ⟨a,cap,rfl,hT,hb⟩;have HT:Hid (zde w2 a ts):=hT;clear hT HC;go_wp2_with fail;go_ret2;exact ⟨a,cap,rfl,HT.out,hb⟩
def z5i:Nat->ByteArray->Nat->Option (List Tk)
 | 0,s,a=>if a<s.size then none else some []
 | f + 1,s,a=>
   if h:a<s.size then
    if ze4 s[a] then z5i f s (a+Lx.pieceN s a)
    else match zdc (s.extract a (a+Lx.pieceN s a)) with
     | none=>none
     | some t=>(z5i f s (a+Lx.pieceN s a)).map (t :: ·)
   else some []
theorem zxh:∀ (f:Nat) (s:ByteArray) (a:Nat),s.size - a<=f->z5i f s a=zdq s a
 | 0,s,a,h=>by rw [zks s a (by omega)];unfold z5i;rw [if_neg (by omega)]
 | f+1,s,a,h=>by
   have hp:=Lx.pieceN_pos s a;have ih:=zxh f s (a+Lx.pieceN s a) (by omega);rw [zdq,z5i,ih]
   cases zdc (s.extract a (a+Lx.pieceN s a))<;>rfl
def zhy (l:L8):Nat:=if Lx.runL l=0 then 1 else Lx.runL l
theorem zm3 (l:L8):0<zhy l:=by unfold zhy;split<;>omega
def zwb:L8->Option (List Tk)
 | []=>some []
 | c :: l=>
   if ze4 c then zwb ((c :: l).drop (zhy (c :: l)))
   else match zdc (strOf ((c :: l).take (zhy (c :: l)))) with
    | none=>none
    | some t=>(zwb ((c :: l).drop (zhy (c :: l)))).map (t :: ·)
termination_by l=>l.length
decreasing_by
 all_goals have:=zm3 (c :: l);simp only [vcc,vas];omega
theorem zrw (s:ByteArray) (a n:Nat):s.extract a (a+n)=strOf ((s.data.toList.drop a).take n):=by
 rw [← zva,strOf_back]
theorem zvc:∀ (n:Nat) (s:ByteArray) (a:Nat),s.size - a=n->zdq s a=zwb (s.data.toList.drop a):=by
 intro n
 induction n using Nat.strongRecOn with
 | _ n ih=>
   intro s a hn
   by_cases h:a<s.size
   . have hd:=zxe s a h
     have hp:Lx.pieceN s a=zhy (s.data.toList.drop a):=rfl;have hpos:=Lx.pieceN_pos s a;have ih':=ih (s.size - (a+Lx.pieceN s a)) (by omega) s (a+Lx.pieceN s a) rfl
     have hdd:s.data.toList.drop (a+Lx.pieceN s a)=(s.data.toList.drop a).drop (Lx.pieceN s a):=by rw [List.drop_drop]
     cases hb:ze4 s[a] with
     | true=>
       rw [zkt s a h hb,ih',hdd,hp,hd,zwb,if_pos hb]
     | false=>
       have he:=zrw s a (Lx.pieceN s a)
       cases ht:zdc (s.extract a (a+Lx.pieceN s a)) with
       | none=>
         rw [zm1 s a h hb ht];rw [he,hp,hd] at ht;rw [hd,zwb,if_neg (by simp [hb]),ht]
       | some t=>
         rw [zm2 s a t h hb ht,ih',hdd];rw [he,hp,hd] at ht;rw [hp,hd,zwb,if_neg (by simp [hb]),ht]
   . rw [zks s a h,vde (by rw [Lx.len_toList];omega),zwb]
theorem zvd (s:ByteArray):zdq s 0=zwb s.data.toList:=by
 have:=zvc _ s 0 rfl;rwa [List.drop_zero] at this
theorem zrx {s:ByteArray} {t:Tk} (h:zdc s=some t):zen t=true/\Tk.okB t=true:=by
 unfold zdc at h
 split at h
 . rename_i hs
   cases h;exact ⟨rfl,by unfold Tk.okB;simp [hs]⟩
 . split at h
   . rename_i hn
     cases h;exact ⟨rfl,by unfold Tk.okB;simp [hn]⟩
   . split at h
     . rename_i hk
       cases h;refine ⟨rfl,?_⟩
       have hv:Lx.valL s.data.toList<=1099511627775:=by unfold Lx.numOk at hk;simp at hk;exact hk.2
       unfold Tk.okB;rw [vba];simp;omega
     . cases h
theorem zve:∀ (n:Nat) (l:L8) (ts:List Tk),l.length=n->zwb l=some ts->zc7 ts/\ts.length<=l.length:=by
 intro n
 induction n using Nat.strongRecOn with
 | _ n ih=>
   intro l ts hn h
   cases l with
   | nil=>rw [zwb] at h;cases h;exact ⟨⟨rfl,rfl⟩,vaa _⟩
   | cons c r=>
     have hpos:=zm3 (c :: r)
     have hlen:((c :: r).drop (zhy (c :: r))).length<n:=by rw [vcc];simp at hn ⊢;omega
     rw [zwb] at h
     split at h
     . obtain ⟨h1,h2⟩:=ih _ hlen _ ts rfl h
       exact ⟨h1,by omega⟩
     . cases ht:zdc (strOf ((c :: r).take (zhy (c :: r)))) with
       | none=>rw [ht] at h;cases h
       | some t=>
         rw [ht] at h
         cases hr:zwb ((c :: r).drop (zhy (c :: r))) with
         | none=>rw [hr] at h;cases h
         | some us=>
           rw [hr] at h;cases h;obtain ⟨h1,h2⟩:=ih _ hlen _ us rfl hr;obtain ⟨hk,ho⟩:=zrx ht;refine ⟨⟨?_,?_⟩,?_⟩
           . rw [vda,hk,h1.1];rfl
           . rw [vda,ho,h1.2];rfl
           . simp only [vas] at *;omega
def kTk (t:ByteArray):Tk:=⟨if Lx.nameB t.data.toList then 1 else 3,0,t⟩
def wTk (t:ByteArray):Tk:=⟨1,0,t⟩
def nTk (n:Int):Tk:=⟨2,n,⟨#[]⟩⟩
theorem zxi {l:L8} (h:Lx.signL l=true):Lx.nameB l=false:=by
 match l,h with
 | [c],h=>
   have h':Lx.signs.contains c=true:=h
   have key:∀ c ∈ Lx.signs,Lx.nameB [c]=false:=by decide
   exact key c (vct.1 h')
theorem zc7.of_app {a b:List Tk} (h:zc7 (a++b)):zc7 b:=by
 obtain ⟨h1,h2⟩:=h;rw [vch,vad] at h1 h2;exact ⟨h1.2,h2.2⟩
theorem zc7.head {t:Tk} {b:List Tk} (h:zc7 (t :: b)):zen t=true/\Tk.okB t=true:=by
 obtain ⟨h1,h2⟩:=h;rw [vda,vad] at h1 h2;exact ⟨h1.1,h2.1⟩
theorem zc7.of_eq {a b c:List Tk} (h:zc7 a) (e:a=b++c):zc7 c:=by rw [e] at h;exact h.of_app
theorem zm4 {s t:ByteArray} (h:s.toList=t.toList):s=t:=by
 rw [vba,vba] at h;exact ven (Array.ext' h)
theorem za3 {l:List Tk} {t:ByteArray} (hr:zc7 l) (ht:0<t.size) (h:skB l t=true):l=kTk t :: l.tail:=by
 cases l with
 | nil=>exact absurd rfl (zwm ht h)
 | cons x r=>
   obtain ⟨hk,ho⟩:=hr.head;obtain ⟨k,n,s⟩:=x;have hs:s=t:=zm4 (beq_iff_eq.1 h);subst hs;show Tk.mk k n s :: r=kTk s :: r
   have hne:s.toList.isEmpty=false:=by
    cases he:s.toList.isEmpty with
    | false=>rfl
    | true=>
      rw [vba] at he;have h1:=Lx.len_toList s;rw [List.isEmpty_iff.1 he] at h1;simp at h1;omega
   unfold zen at hk;simp only [vad,decide_eq_true_eq] at hk;unfold Tk.okB at ho
   have h123:k=1\/k=2\/k=3:=by omega
   rcases h123 with rfl | rfl | rfl
   . simp at ho
     unfold kTk
     rw [ho.1,ho.2];rfl
   . simp [hne] at ho
   . simp at ho
     unfold kTk
     rw [ho.1,zxi ho.2];rfl
theorem z0o (s:ByteArray):zn2 s=zqu s:=by
 unfold zn2 zqu;rw [vba];show z26.any _=kept.contains _;rw [vcq,List.any_eq_true,vct]
 constructor
 . rintro ⟨x,hx,h⟩
   rw [beq_iff_eq.1 h];exact hx
 . intro h
   exact ⟨_,h,beq_self_eq_true _⟩
theorem zd2 {l l':List Tk} {a:ByteArray} (hr:zc7 l) (h:zdo l=some (a,l')):l=wTk a :: l'/\nameOk a=true:=by
 unfold zdo at h
 split at h
 . rename_i hk
   obtain ⟨rfl,rfl⟩:=vak (vac h);simp only [vad,beq_iff_eq,vdm] at hk
   cases l with
   | nil=>exact absurd hk.1 (by decide)
   | cons x r=>
     obtain ⟨_,ho⟩:=hr.head;obtain ⟨k,n,s⟩:=x;have e1:k=1:=hk.1;have e2:zn2 s=false:=hk.2;subst e1;unfold Tk.okB at ho;simp at ho;have e3:n=0:=ho.1;subst e3;refine ⟨rfl,?_⟩;show nameOk s=true;unfold nameOk
     rw [← z0o,e2,ho.2];rfl
 . cases h
theorem zry {l l':List Tk} {a:Int} (hr:zc7 l) (h:pNum l=some (a,l')):l=nTk a :: l'/\0<=a/\a<=1099511627775:=by
 unfold pNum at h
 split at h
 . rename_i hk
   obtain ⟨rfl,rfl⟩:=vak (vac h)
   cases l with
   | nil=>exact absurd hk (by decide)
   | cons x r=>
     obtain ⟨_,ho⟩:=hr.head;obtain ⟨k,n,s⟩:=x;have e1:k=2:=hk;subst e1;unfold Tk.okB at ho;simp at ho
     have e2:s=⟨#[]⟩:=by
      apply zm4
      rw [ho.1,vba]
     subst e2;exact ⟨rfl,ho.2⟩
 . cases h
def z2k (m n:ByteArray):List Tk:=if m.size=0 then [wTk n] else [wTk m,kTk z25,wTk n]
theorem z0p {s:ByteArray} (h:nameOk s=true):0<s.size:=by
 rcases vce s.size with h0 | h0
 . exfalso
   have:s.data.toList=[]:=vao (by rw [Lx.len_toList];exact h0);unfold nameOk at h;rw [this] at h;simp [Lx.nameB,Lx.headLet] at h
 . exact h0
theorem zxj {l l':List Tk} {m n:ByteArray} (hr:zc7 l) (h:zv8 l=some ((m,n),l')):l=z2k m n++l'/\nameOk n=true/\(m.size=0\/nameOk m=true):=by
 unfold zv8 at h
 split at h
 . cases h
 rename_i a l1 h1
 obtain ⟨e1,n1⟩:=zd2 hr h1;have r1:zc7 l1:=hr.of_eq (b:=[wTk a]) e1
 split at h
 . rename_i hs
   have e2:=za3 r1 (by decide) hs
   split at h
   . cases h
   rename_i b l2 h2
   obtain ⟨e3,n3⟩:=zd2 (r1.of_eq (b:=[kTk z25]) e2) h2;obtain ⟨h3,rfl⟩:=vak (vac h);obtain ⟨rfl,rfl⟩:=vak h3;refine ⟨?_,n3,Or.inr n1⟩;unfold z2k
   rw [if_neg (by have:=z0p n1;omega),e1,e2,show l1.tail=wTk b :: l2 from e3];rfl
 . obtain ⟨h3,rfl⟩:=vak (vac h)
   obtain ⟨rfl,rfl⟩:=vak h3;exact ⟨e1,n1,Or.inl rfl⟩
def z6h (op:Int):Tk:=kTk (opTexts.getD (op - 7).toNat ⟨#[]⟩)
def zd7:List (List Tk)->List Tk
 | []=>[]
 | [x]=>x
 | x :: y :: r=>x++kTk zz5 :: zd7 (y :: r)
def exTok (op n:Int) (m nm:ByteArray) (xs:List (List Tk)):List Tk:=
 if op=1 then [nTk n] else if op=2 then [kTk tIn] else if op=3 then z2k m nm
 else if op=4 then z2k m nm++kTk tLs :: (xs.getD 0 []++[kTk tRs])
 else if op=5 then z2k m nm++kTk tLp :: (zd7 xs++[kTk tRp])
 else if op=6 then kTk z47 :: xs.getD 0 []
 else kTk tLp :: (xs.getD 0 []++z6h op :: (xs.getD 1 []++[kTk tRp]))
mutual
def tE:Ex->List Tk
 | .mk op n m nm args=>exTok op n m nm (tEs args)
def tEs:List Ex->List (List Tk)
 | []=>[]
 | x :: r=>tE x :: tEs r
end
theorem zm5:∀ (a b:List Ex),tEs (a++b)=tEs a++tEs b
 | [],b=>by simp [tEs]
 | x :: r,b=>by simp [tEs,zm5 r b]
theorem zxk:∀ (a:List Ex),(tEs a).length=a.length
 | []=>by simp [tEs]
 | x :: r=>by simp [tEs,zxk r]
theorem zhe:∀ (a:List (List Tk)) (x:List Tk),a≠[]->zd7 (a++[x])=zd7 a++kTk zz5 :: x
 | [],_,h=>absurd rfl h
 | [y],x,_=>by simp [zd7]
 | y :: z :: r,x,_=>by
   have:=zhe (z :: r) x (by simp);show y++kTk zz5 :: zd7 ((z :: r)++[x])=(y++kTk zz5 :: zd7 (z :: r))++kTk zz5 :: x
   rw [this];simp
theorem zaz {n:Int} (h0 : -9223372036854775808<=n) (h1:n<=9223372036854775807):(Lit.int .i64 n).wf=true:=by
 have e1:IntKind.i64.min = -9223372036854775808:=by decide
 have e2:IntKind.i64.max=9223372036854775807:=by decide
 simp [Lit.wf,e1,e2];omega
theorem zhz:∀ (l:List Ex),(zbt l).length=5*l.length
 | []=>by simp [zbt]
 | x :: r=>by
   have:=x.ds_len
   simp [zbt,zhz r,this];omega
theorem zeo:∀ (l:List St),(zbu l).length=6*l.length
 | []=>by simp [zbu]
 | x :: r=>by
   have:=x.ds_len
   simp [zbu,zeo r,this];omega
theorem zhf {op n:Int} {m nm:ByteArray} {args:List Ex} (h1:(Lit.int .i64 op).wf=true) (h2:(Lit.int .i64 n).wf=true) (h3:args.length<=10000) (h4:D.fines (zbt args)):D.fines (Ex.mk op n m nm args).ds:=by
 unfold Ex.ds;simp only [D.fines,D.fine];refine ⟨h1,h2,trivial,trivial,⟨?_,?_,h4⟩,trivial⟩
 . rw [zhz];omega
 . rw [zhz];omega
theorem zdf:D.fines []:=by unfold D.fines;trivial
theorem zd3 {x:Ex} (h:D.fines x.ds):D.fines (zbt [x]):=by rw [zj3];exact h
theorem ztx {x y:Ex} (h:D.fines x.ds) (k:D.fines y.ds):D.fines (zbt [x,y]):=by
 show D.fines (x.ds++(y.ds++[]));exact D.fines_append h (D.fines_append k zdf)
theorem z0q {l:List Tk} {k:Nat} (hr:zc7 l) (h:zwl l=some k):l=z6h (7+k) :: l.tail/\k<9:=by
 unfold zwl at h;obtain ⟨hk,h2,_⟩:=vbz.1 h
 have hp:0<(opTexts[k]).size:=by
  have:∀ x ∈ opTexts,0<x.size:=by decide
  exact this _ (vap hk)
 refine ⟨?_,hk⟩;have e:=za3 hr hp h2;unfold z6h;rw [show ((7:Int)+(k:Int) - 7).toNat=k from by omega,vbl,vaj hk];exact e
def zh0 (l:List Tk):Prop:=zc7 l/\l.length<=4096
theorem zh0.of_eq {a b c:List Tk} (h:zh0 a) (e:a=b++c):zh0 c:=⟨h.1.of_eq e,by have:=h.2;rw [e,vab] at this;omega⟩
theorem zh0.tl {a c:List Tk} {t:Tk} (h:zh0 a) (e:a=t :: c):zh0 c:=h.of_eq (b:=[t]) e
mutual
theorem zcx:∀ (f:Nat) (l l':List Tk) (x:Ex),zbr f l=some (x,l')->zh0 l->l=tE x++l'/\D.fines x.ds
 | 0,_,_,_,h,_=>by simp [zbr] at h
 | f + 1,l,l',x,h,hg=>by
   unfold zbr at h
   split at h
   . rename_i hk
     obtain ⟨rfl,rfl⟩:=vak (vac h)
     have hn:pNum l=some ((hd l).n,l.tail):=by unfold pNum;rw [if_pos hk]
     obtain ⟨e,h0,h1⟩:=zry hg.1 hn;exact ⟨by simpa [tE,exTok] using e,zhf (zaz (by decide) (by decide)) (zaz (by omega) (by omega)) (by simp) (by unfold zbt;exact zdf)⟩
   split at h
   . rename_i hs
     obtain ⟨rfl,rfl⟩:=vak (vac h);exact ⟨by simpa [tE,exTok] using za3 hg.1 (by decide) hs,zhf (zaz (by decide) (by decide)) (zaz (by decide) (by decide)) (by simp) (by unfold zbt;exact zdf)⟩
   split at h
   . rename_i hs
     have e:=za3 hg.1 (by decide) hs
     split at h
     . cases h
     rename_i y l1 h1
     obtain ⟨rfl,rfl⟩:=vak (vac h);obtain ⟨e1,f1⟩:=zcx f _ _ _ h1 (hg.tl e);refine ⟨?_,zhf (zaz (by decide) (by decide)) (zaz (by decide) (by decide)) (by simp) (zd3 f1)⟩
     rw [e,show l.tail=tE y++l1 from e1];simp [tE,tEs,exTok]
   split at h
   . rename_i hs
     have e:=za3 hg.1 (by decide) hs;obtain ⟨e1,f1⟩:=zrz f _ _ _ h (hg.tl e);exact ⟨e.trans e1,f1⟩
   split at h
   . cases h
   rename_i m nm l1 h1
   obtain ⟨e1,n1,n2⟩:=zxj hg.1 h1;have g1:=hg.of_eq e1
   split at h
   . rename_i hs
     have e2:=za3 g1.1 (by decide) hs
     split at h
     . cases h
     rename_i y l2 h2
     obtain ⟨e3,f3⟩:=zcx f _ _ _ h2 (g1.tl e2)
     split at h
     . rename_i hs2
       have e4:=za3 ((g1.tl e2).of_eq e3).1 (by decide) hs2;obtain ⟨rfl,rfl⟩:=vak (vac h);refine ⟨?_,zhf (zaz (by decide) (by decide)) (zaz (by decide) (by decide)) (by simp) (zd3 f3)⟩
       rw [e1,e2,show l1.tail=tE y++l2 from e3,e4];simp [tE,tEs,exTok]
     . cases h
   split at h
   . rename_i hs
     have e2:=za3 g1.1 (by decide) hs
     split at h
     . cases h
     rename_i ys l2 h2
     obtain ⟨e3,f3,c3⟩:=zkv f _ _ _ h2 (g1.tl e2);obtain ⟨rfl,rfl⟩:=vak (vac h);have hl3:l1.tail.length<=4096:=(g1.tl e2).2;refine ⟨?_,zhf (zaz (by decide) (by decide)) (zaz (by decide) (by decide)) (by omega) f3⟩
     rw [e1,e2,show l1.tail=zd7 (tEs ys)++kTk tRp :: l2 from e3];simp [tE,exTok]
   . obtain ⟨rfl,rfl⟩:=vak (vac h)
     refine ⟨?_,zhf (zaz (by decide) (by decide)) (zaz (by decide) (by decide)) (by simp) (by unfold zbt;exact zdf)⟩
     rw [e1];simp [tE,exTok]
theorem zrz:∀ (f:Nat) (l l':List Tk) (x:Ex),zf1 f l=some (x,l')->zh0 l->kTk tLp :: l=tE x++l'/\D.fines x.ds
 | 0,_,_,_,h,_=>by simp [zf1] at h
 | f + 1,l,l',x,h,hg=>by
   unfold zf1 at h
   split at h
   . cases h
   rename_i a l1 h1
   obtain ⟨e1,f1⟩:=zcx f _ _ _ h1 hg;have g1:=hg.of_eq e1
   split at h
   . cases h
   rename_i k hk
   obtain ⟨e2,k9⟩:=z0q g1.1 hk
   split at h
   . cases h
   rename_i b l2 h2
   obtain ⟨e3,f3⟩:=zcx f _ _ _ h2 (g1.tl e2)
   split at h
   . rename_i hs
     have e4:=za3 ((g1.tl e2).of_eq e3).1 (by decide) hs;obtain ⟨rfl,rfl⟩:=vak (vac h);refine ⟨?_,zhf (zaz (by omega) (by omega)) (zaz (by decide) (by decide)) (by simp) (ztx f1 f3)⟩
     have hop:∀ xs,exTok (7+(k:Int)) 0 ⟨#[]⟩ ⟨#[]⟩ xs=kTk tLp :: (xs.getD 0 []++z6h (7+k) :: (xs.getD 1 []++[kTk tRp])):=by
      intro xs;unfold exTok;rw [if_neg (by omega),if_neg (by omega),if_neg (by omega),if_neg (by omega),if_neg (by omega),if_neg (by omega)]
     rw [e1,e2,show l1.tail=tE b++l2 from e3,e4];simp only [tE,hop,tEs];simp
   . cases h
theorem zkv:∀ (f:Nat) (l l':List Tk) (xs:List Ex),zev f l=some (xs,l')->zh0 l->l=zd7 (tEs xs)++kTk tRp :: l'/\D.fines (zbt xs)/\xs.length<=l.length
 | 0,_,_,_,h,_=>by simp [zev] at h
 | f + 1,l,l',xs,h,hg=>by
   unfold zev at h
   split at h
   . rename_i hs
     obtain ⟨rfl,rfl⟩:=vak (vac h);exact ⟨by simpa [tEs,zd7] using za3 hg.1 (by decide) hs,by unfold zbt;exact zdf,by simp⟩
   split at h
   . cases h
   rename_i x l1 h1
   obtain ⟨e1,f1⟩:=zcx f _ _ _ h1 hg;have hlt:=zcr f _ _ _ h1;obtain ⟨e2,f2,c2⟩:=zkw f [x] l1 l' xs h (hg.of_eq e1) (by simp) (by have:=hg.2;simp;omega) (zd3 f1);refine ⟨?_,f2,by simp at c2;omega⟩
   rw [e1,← e2];simp [tEs,zd7]
theorem zkw:∀ (f:Nat) (acc:List Ex) (l l':List Tk) (xs:List Ex),zgy f acc l=some (xs,l')->zh0 l->acc≠[]->acc.length+l.length<=10000->D.fines (zbt acc)->zd7 (tEs acc)++l=zd7 (tEs xs)++kTk tRp :: l'/\D.fines (zbt xs)/\xs.length<=acc.length+l.length
 | 0,_,_,_,_,h,_,_,_,_=>by simp [zgy] at h
 | f + 1,acc,l,l',xs,h,hg,hne,hc,hf=>by
   unfold zgy at h
   split at h
   . rename_i hs
     have e:=za3 hg.1 (by decide) hs;have hl:=zap (by decide) hs
     split at h
     . cases h
     rename_i x l1 h1
     obtain ⟨e1,f1⟩:=zcx f _ _ _ h1 (hg.tl e);have hlt:=zcr f _ _ _ h1;obtain ⟨e2,f2,c2⟩:=zkw f (acc++[x]) l1 l' xs h ((hg.tl e).of_eq e1) (by simp) (by simp;omega) (by rw [zho];exact D.fines_append hf (zd3 f1));refine ⟨?_,f2,by simp at c2;omega⟩;rw [← e2,zm5,show tEs [x]=[tE x] from by simp [tEs],zhe _ _ (by intro h0;apply hne;have:=zxk acc;rw [h0] at this;exact vao this.symm),e,show l.tail=tE x++l1 from e1];simp
   split at h
   . rename_i hs
     obtain ⟨rfl,rfl⟩:=vak (vac h);exact ⟨by rw [← za3 hg.1 (by decide) hs],hf,by omega⟩
   . cases h
end
def zr0 (op:Int) (m nm:ByteArray) (xs:List (List Tk)):List Tk:=
 if op=1 then z2k m nm++kTk tEq :: xs.getD 0 []
 else if op=2 then z2k m nm++kTk tLs :: (xs.getD 0 []++kTk tRs :: kTk tEq :: xs.getD 1 [])
 else if op=3 then z2k m nm++kTk tLp :: (zd7 xs++[kTk tRp])
 else if op=6 then kTk zfp :: xs.getD 0 [] else kTk z2f :: xs.getD 0 []
def brT (x:List Tk):List Tk:=kTk tLb :: (x++[kTk tRb])
def zxl (op:Int) (m nm:ByteArray) (xs:List (List Tk)) (b o:List Tk) (k:Nat):List Tk:=
 if op=4 then kTk tIf :: (xs.getD 0 []++(brT b++(if k=0 then [] else kTk zrl :: brT o)))
 else if op=5 then kTk zg5 :: (xs.getD 0 []++brT b)
 else zr0 op m nm xs++[kTk zhs]
mutual
def tS:St->List Tk
 | .mk op m nm args body other=>zxl op m nm (tEs args) (tSs body) (tSs other) other.length
def tSs:List St->List Tk
 | []=>[]
 | s :: r=>tS s++tSs r
end
theorem zm6:∀ (a b:List St),tSs (a++b)=tSs a++tSs b
 | [],b=>by simp [tSs]
 | x :: r,b=>by simp [tSs,zm6 r b]
theorem z3j (s:St):tSs [s]=tS s:=by simp [tSs]
theorem zf8 {op:Int} {m nm:ByteArray} {args:List Ex} {body other:List St} (h1:(Lit.int .i64 op).wf=true) (h3:args.length<=10000) (h4:D.fines (zbt args)) (h5:body.length<=10000) (h6:D.fines (zbu body)) (h7:other.length<=10000) (h8:D.fines (zbu other)):D.fines (St.mk op m nm args body other).ds:=by
 unfold St.ds;simp only [D.fines,D.fine];refine ⟨h1,trivial,trivial,⟨?_,?_,h4⟩,⟨?_,?_,h6⟩,⟨?_,?_,h8⟩,trivial⟩
 . rw [zhz];omega
 . rw [zhz];omega
 . rw [zeo];omega
 . rw [zeo];omega
 . rw [zeo];omega
 . rw [zeo];omega
theorem zdw:D.fines (zbu []):=by unfold zbu;exact zdf
theorem zfq {l l':List Tk} {x:Ex} (h:pX l=some (x,l')) (hg:zh0 l):l=tE x++l'/\D.fines x.ds:=zcx _ _ _ _ h hg
theorem zxm {l l':List Tk} {xs:List Ex} (h:pAs l=some (xs,l')) (hg:zh0 l):l=zd7 (tEs xs)++kTk tRp :: l'/\D.fines (zbt xs)/\xs.length<=l.length:=zkv _ _ _ _ h hg
def z2l:St->List Tk
 | .mk op m nm args _ _=>zr0 op m nm (tEs args)
theorem zqf {l l':List Tk} {s:St} (h:zbw l=some (s,l')) (hg:zh0 l):l++[]=z2l s++l'/\D.fines s.ds/\s.op≠4/\s.op≠5:=by
 unfold zbw at h
 split at h
 . cases h
 rename_i m nm l1 h1
 obtain ⟨e1,n1,n2⟩:=zxj hg.1 h1;have g1:=hg.of_eq e1
 split at h
 . rename_i hs
   have e2:=za3 g1.1 (by decide) hs
   split at h
   . cases h
   rename_i x l2 h2
   obtain ⟨e3,f3⟩:=zfq h2 (g1.tl e2);obtain ⟨rfl,rfl⟩:=vak (vac h);refine ⟨?_,zf8 (zaz (by decide) (by decide)) (by simp) (zd3 f3) (by simp) zdw (by simp) zdw,by simp [St.op],by simp [St.op]⟩
   rw [vbe,e1,e2,show l1.tail=tE x++l2 from e3];simp [z2l,tEs,zr0]
 split at h
 . rename_i hs
   have e2:=za3 g1.1 (by decide) hs
   split at h
   . cases h
   rename_i x l2 h2
   obtain ⟨e3,f3⟩:=zfq h2 (g1.tl e2);have g3:=(g1.tl e2).of_eq e3
   split at h
   . rename_i hs2
     have e4:=za3 g3.1 (by decide) hs2
     split at h
     . rename_i hs3
       have e5:=za3 (g3.tl e4).1 (by decide) hs3
       split at h
       . cases h
       rename_i y l3 h3
       obtain ⟨e6,f6⟩:=zfq h3 ((g3.tl e4).tl e5);obtain ⟨rfl,rfl⟩:=vak (vac h);refine ⟨?_,zf8 (zaz (by decide) (by decide)) (by simp) (ztx f3 f6) (by simp) zdw (by simp) zdw,by simp [St.op],by simp [St.op]⟩
       rw [vbe,e1,e2,show l1.tail=tE x++l2 from e3,e4,show l2.tail=kTk tEq :: l2.tail.tail from e5,show l2.tail.tail=tE y++l3 from e6];simp [z2l,tEs,zr0]
     . cases h
   . cases h
 split at h
 . rename_i hs
   have e2:=za3 g1.1 (by decide) hs
   split at h
   . cases h
   rename_i xs l2 h2
   obtain ⟨e3,f3,c3⟩:=zxm h2 (g1.tl e2);have hl3:l1.tail.length<=4096:=(g1.tl e2).2;obtain ⟨rfl,rfl⟩:=vak (vac h);refine ⟨?_,zf8 (zaz (by decide) (by decide)) (by omega) f3 (by simp) zdw (by simp) zdw,by simp [St.op],by simp [St.op]⟩
   rw [vbe,e1,e2,show l1.tail=zd7 (tEs xs)++kTk tRp :: l2 from e3];simp [z2l,zr0]
 . cases h
theorem zol {l l1 l2:List Tk} {s s':St} {r:Option (St × List Tk)} (h:zd5 r=some (s,l2)) (hr:r=some (s',l1)) (hg:zh0 l) (e:l=z2l s'++l1) (h4:s'.op≠4) (h5:s'.op≠5):s=s'/\l=tS s'++l2:=by
 subst hr;unfold zd5 at h;simp only at h
 split at h
 . rename_i hs
   have e1:=za3 (hg.of_eq e).1 (by decide) hs;obtain ⟨rfl,rfl⟩:=vak (vac h);refine ⟨rfl,?_⟩;obtain ⟨op,m,nm,args,body,other⟩:=s';have h4':¬ op=4:=h4;have h5':¬ op=5:=h5;rw [e,e1];simp [z2l,tS,zxl,h4',h5']
 . cases h
theorem zr1 {r:Option (St × List Tk)} {s:St} {l:List Tk} (h:zd5 r=some (s,l)):∃ s' l1,r=some (s',l1):=by
 cases r with
 | none=>cases h
 | some p=>exact ⟨p.1,p.2,rfl⟩
mutual
theorem zr2:∀ (f:Nat) (l l':List Tk) (s:St),zcn f l=some (s,l')->zh0 l->l=tS s++l'/\D.fines s.ds
 | 0,_,_,_,h,_=>by simp [zcn] at h
 | f + 1,l,l',s,h,hg=>by
   unfold zcn at h
   split at h
   . rename_i hs
     have e:=za3 hg.1 (by decide) hs
     split at h
     . cases h
     rename_i x l1 h1
     obtain ⟨e1,f1⟩:=zfq h1 (hg.tl e);have g1:=(hg.tl e).of_eq e1
     split at h
     . cases h
     rename_i b l2 h2
     obtain ⟨e2,f2,c2⟩:=zd8 f _ _ _ h2 g1;have g2:=g1.of_eq e2;have k1:=g1.2
     split at h
     . rename_i hs2
       have e3:=za3 g2.1 (by decide) hs2
       split at h
       . cases h
       rename_i o l3 h3
       obtain ⟨e4,f4,c4⟩:=zd8 f _ _ _ h3 (g2.tl e3);have k2:l2.tail.length<=4096:=(g2.tl e3).2
       split at h
       . cases h
       rename_i ho
       obtain ⟨rfl,rfl⟩:=vak (vac h);refine ⟨?_,zf8 (zaz (by decide) (by decide)) (by simp) (zd3 f1) (by omega) f2 (by omega) f4⟩
       have ho':¬ o=[]:=fun h0=>ho (by rw [h0];rfl)
       rw [e,show l.tail=tE x++l1 from e1,e2,e3,show l2.tail=brT (tSs o)++l3 from e4];simp [tS,tEs,zxl,ho']
     . obtain ⟨rfl,rfl⟩:=vak (vac h)
       refine ⟨?_,zf8 (zaz (by decide) (by decide)) (by simp) (zd3 f1) (by omega) f2 (by simp) zdw⟩
       rw [e,show l.tail=tE x++l1 from e1,e2];simp [tS,tEs,zxl]
   split at h
   . rename_i hs
     have e:=za3 hg.1 (by decide) hs
     split at h
     . cases h
     rename_i x l1 h1
     obtain ⟨e1,f1⟩:=zfq h1 (hg.tl e);have g1:=(hg.tl e).of_eq e1
     split at h
     . cases h
     rename_i b l2 h2
     obtain ⟨e2,f2,c2⟩:=zd8 f _ _ _ h2 g1;have k1:=g1.2;obtain ⟨rfl,rfl⟩:=vak (vac h);refine ⟨?_,zf8 (zaz (by decide) (by decide)) (by simp) (zd3 f1) (by omega) f2 (by simp) zdw⟩
     rw [e,show l.tail=tE x++l1 from e1,e2];simp [tS,tEs,zxl]
   split at h
   . rename_i hs
     have e:=za3 hg.1 (by decide) hs
     cases h1:pX l.tail with
     | none=>rw [h1] at h;cases h
     | some p=>
       obtain ⟨x,l1⟩:=p;rw [h1] at h;obtain ⟨e1,f1⟩:=zfq h1 (hg.tl e);obtain ⟨rfl,e2⟩:=zol h rfl hg (by rw [e,e1];simp [z2l,zr0,tEs]) (by simp [St.op]) (by simp [St.op]);exact ⟨e2,zf8 (zaz (by decide) (by decide)) (by simp) (zd3 f1) (by simp) zdw (by simp) zdw⟩
   split at h
   . rename_i hs
     have e:=za3 hg.1 (by decide) hs
     cases h1:pX l.tail with
     | none=>rw [h1] at h;cases h
     | some p=>
       obtain ⟨x,l1⟩:=p;rw [h1] at h;obtain ⟨e1,f1⟩:=zfq h1 (hg.tl e);obtain ⟨rfl,e2⟩:=zol h rfl hg (by rw [e,e1];simp [z2l,zr0,tEs]) (by simp [St.op]) (by simp [St.op]);exact ⟨e2,zf8 (zaz (by decide) (by decide)) (by simp) (zd3 f1) (by simp) zdw (by simp) zdw⟩
   . obtain ⟨s',l1,hr⟩:=zr1 h
     obtain ⟨e1,f1,h4,h5⟩:=zqf hr hg;rw [vbe] at e1;obtain ⟨rfl,e2⟩:=zol h hr hg e1 h4 h5;exact ⟨e2,f1⟩
theorem zd8:∀ (f:Nat) (l l':List Tk) (b:List St),zbz f l=some (b,l')->zh0 l->l=brT (tSs b)++l'/\D.fines (zbu b)/\b.length<=l.length
 | 0,_,_,_,h,_=>by simp [zbz] at h
 | f + 1,l,l',b,h,hg=>by
   unfold zbz at h
   split at h
   . rename_i hs
     have e:=za3 hg.1 (by decide) hs;have hl:=zap (by decide) hs;have k:=(hg.tl e).2;obtain ⟨e1,f1,c1⟩:=zje f [] l.tail l' b h (hg.tl e) (by simp at k ⊢;omega) zdw;refine ⟨?_,f1,by simp at c1;omega⟩
     rw [e,show l.tail=tSs b++kTk tRb :: l' from by simpa [tSs] using e1];simp [brT]
   . cases h
theorem zje:∀ (f:Nat) (acc:List St) (l l':List Tk) (b:List St),zew f acc l=some (b,l')->zh0 l->acc.length+l.length<=10000->D.fines (zbu acc)->tSs acc++l=tSs b++kTk tRb :: l'/\D.fines (zbu b)/\b.length<=acc.length+l.length
 | 0,_,_,_,_,h,_,_,_=>by simp [zew] at h
 | f + 1,acc,l,l',b,h,hg,hc,hf=>by
   unfold zew at h
   split at h
   . rename_i hs
     obtain ⟨rfl,rfl⟩:=vak (vac h);exact ⟨by rw [← za3 hg.1 (by decide) hs],hf,by omega⟩
   split at h
   . cases h
   rename_i s l1 h1
   obtain ⟨e1,f1⟩:=zr2 f _ _ _ h1 hg;have hlt:=zos f _ _ _ h1;obtain ⟨e2,f2,c2⟩:=zje f (acc++[s]) l1 l' b h (hg.of_eq e1) (by simp;omega) (by rw [zhp,zuc];exact D.fines_append hf f1);refine ⟨?_,f2,by simp at c2;omega⟩
   rw [← e2,zm6,z3j,e1];simp
end
def z6i (b:Bool):List Tk:=if b then [kTk zc5] else []
theorem zxn {l:List Tk} (hr:zc7 l):l=z6i (skB l zc5)++zh7 l:=by
 unfold z6i zh7
 cases h:skB l zc5 with
 | true=>exact za3 hr (by decide) h
 | false=>rfl
def tD (d:De):List Tk:=z6i d.pub++(if d.kind=1 then [kTk zpv,wTk d.name,kTk tEq,nTk d.n,kTk zhs] else if d.kind=2 then [kTk z45,wTk d.name,kTk zhs] else [kTk zpw,wTk d.name,kTk tLs,nTk d.n,kTk tRs,kTk zhs])
theorem zr3 {k n:Int} {nm:ByteArray} {p:Bool} (h1:(Lit.int .i64 k).wf=true) (h2:(Lit.int .i64 n).wf=true):D.fines (De.mk k nm p n).ds:=by
 simp only [De.ds,D.fines,D.fine];exact ⟨h1,trivial,trivial,h2,trivial⟩
theorem zr4 {l l':List Tk} {d:De} (h:zb3 l=some (d,l')) (hg:zh0 l):l=tD d++l'/\D.fines d.ds:=by
 have ep:=zxn hg.1;have gp:=hg.of_eq ep;unfold zb3 at h
 split at h
 . rename_i hs
   have e:=za3 gp.1 (by decide) hs
   split at h
   . cases h
   rename_i n l1 h1
   obtain ⟨e1,n1⟩:=zd2 (gp.tl e).1 h1;have g1:=(gp.tl e).tl e1
   split at h
   . rename_i hs2
     have e2:=za3 g1.1 (by decide) hs2
     split at h
     . cases h
     rename_i k l2 h2
     obtain ⟨e3,k0,k1⟩:=zry (g1.tl e2).1 h2;have g3:=(g1.tl e2).tl e3
     split at h
     . rename_i hs3
       have e4:=za3 g3.1 (by decide) hs3;obtain ⟨rfl,rfl⟩:=vak (vac h);refine ⟨?_,zr3 (zaz (by decide) (by decide)) (zaz (by omega) (by omega))⟩;refine ep.trans ?_
       rw [e,show (zh7 l).tail=wTk n :: l1 from e1,e2,show l1.tail=nTk k :: l2 from e3,e4];simp [tD]
     . cases h
   . cases h
 split at h
 . rename_i hs
   have e:=za3 gp.1 (by decide) hs
   split at h
   . cases h
   rename_i n l1 h1
   obtain ⟨e1,n1⟩:=zd2 (gp.tl e).1 h1;have g1:=(gp.tl e).tl e1
   split at h
   . rename_i hs3
     have e4:=za3 g1.1 (by decide) hs3;obtain ⟨rfl,rfl⟩:=vak (vac h);refine ⟨?_,zr3 (zaz (by decide) (by decide)) (zaz (by decide) (by decide))⟩;refine ep.trans ?_
     rw [e,show (zh7 l).tail=wTk n :: l1 from e1,e4];simp [tD]
   . cases h
 split at h
 . rename_i hs
   have e:=za3 gp.1 (by decide) hs
   split at h
   . cases h
   rename_i n l1 h1
   obtain ⟨e1,n1⟩:=zd2 (gp.tl e).1 h1;have g1:=(gp.tl e).tl e1
   split at h
   . rename_i hs2
     have e2:=za3 g1.1 (by decide) hs2
     split at h
     . cases h
     rename_i k l2 h2
     obtain ⟨e3,k0,k1⟩:=zry (g1.tl e2).1 h2;have g3:=(g1.tl e2).tl e3
     split at h
     . rename_i hs3
       have e4:=za3 g3.1 (by decide) hs3
       split at h
       . rename_i hs4
         have e5:=za3 (g3.tl e4).1 (by decide) hs4;obtain ⟨rfl,rfl⟩:=vak (vac h);refine ⟨?_,zr3 (zaz (by decide) (by decide)) (zaz (by omega) (by omega))⟩;refine ep.trans ?_
         rw [e,show (zh7 l).tail=wTk n :: l1 from e1,e2,show l1.tail=nTk k :: l2 from e3,e4,show l2.tail=kTk zhs :: l2.tail.tail from e5];simp [tD]
       . cases h
     . cases h
   . cases h
 . cases h
def zm7 (ps:List ByteArray):List Tk:=zd7 (ps.map (fun n=>[wTk n]))
theorem zh1:∀ (f:Nat) (acc:List ByteArray) (l l':List Tk) (ps:List ByteArray),zc0 f acc l=some (ps,l')->zh0 l->acc≠[]->zm7 acc++l=zm7 ps++kTk tRp :: l'/\ps.length<=acc.length+l.length
 | 0,_,_,_,_,h,_,_=>by simp [zc0] at h
 | f + 1,acc,l,l',ps,h,hg,hne=>by
   unfold zc0 at h
   split at h
   . rename_i hs
     have e:=za3 hg.1 (by decide) hs;have hl:=zap (by decide) hs
     split at h
     . cases h
     rename_i n l1 h1
     obtain ⟨e1,_⟩:=zd2 (hg.tl e).1 h1;have hlt:=zbo h1;obtain ⟨e2,c2⟩:=zh1 f (acc++[n]) l1 l' ps h ((hg.tl e).tl e1) (by simp);refine ⟨?_,by simp at c2;omega⟩;rw [← e2];unfold zm7;rw [vdf,show [n].map (fun n=>[wTk n])=[[wTk n]] from rfl,zhe _ _ (by simpa using hne),e,show l.tail=wTk n :: l1 from e1];simp
   split at h
   . rename_i hs
     obtain ⟨rfl,rfl⟩:=vak (vac h);exact ⟨by rw [← za3 hg.1 (by decide) hs],by omega⟩
   . cases h
theorem zr5 {l l':List Tk} {ps:List ByteArray} (h:zhl l=some (ps,l')) (hg:zh0 l):l=zm7 ps++kTk tRp :: l'/\ps.length<=l.length:=by
 unfold zhl at h
 split at h
 . rename_i hs
   obtain ⟨rfl,rfl⟩:=vak (vac h);exact ⟨za3 hg.1 (by decide) hs,by simp⟩
 split at h
 . cases h
 rename_i n l1 h1
 obtain ⟨e1,_⟩:=zd2 hg.1 h1;have hlt:=zbo h1;obtain ⟨e2,c2⟩:=zh1 _ [n] l1 l' ps h (hg.tl e1) (by simp);exact ⟨by rw [e1,← e2];rfl,by simp at c2;omega⟩
def z0r (t:ByteArray) (l:List ByteArray):List Tk:=l.flatMap (fun n=>[kTk t,wTk n,kTk zhs])
theorem zhg (t:ByteArray) (ht:0<t.size):∀ (f:Nat) (acc:List ByteArray) (l l':List Tk) (ls:List ByteArray),zc1 t f acc l=some (ls,l')->zh0 l->z0r t acc++l=z0r t ls++l'/\ls.length<=acc.length+l.length
 | 0,_,_,_,_,h,_=>by simp [zc1] at h
 | f + 1,acc,l,l',ls,h,hg=>by
   unfold zc1 at h
   split at h
   . rename_i hs
     have e:=za3 hg.1 ht hs;have hl:=zap ht hs
     split at h
     . cases h
     rename_i n l1 h1
     obtain ⟨e1,_⟩:=zd2 (hg.tl e).1 h1;have hlt:=zbo h1;have g1:=(hg.tl e).tl e1
     split at h
     . rename_i hs2
       have e2:=za3 g1.1 (by decide) hs2;have hl2:=zap (by decide) hs2;obtain ⟨e3,c3⟩:=zhg t ht f (acc++[n]) l1.tail l' ls h (g1.tl e2);refine ⟨?_,by simp at c3 hl2 ⊢;omega⟩;rw [← e3,e,show l.tail=wTk n :: l1 from e1]
       conv=>lhs;rw [e2]
       simp [z0r]
     . cases h
   . obtain ⟨rfl,rfl⟩:=vak (vac h)
     exact ⟨rfl,by omega⟩
def tP (p:Pr):List Tk:=z6i p.pub++kTk z24 :: wTk p.name :: kTk tLp :: (zm7 p.params++kTk tRp :: (z0r zei p.locals++brT (tSs p.body)))
theorem zh2:∀ (l:List ByteArray),D.fines (zam l)
 | []=>zdf
 | x :: r=>by
   show D.fines (.str x :: zam r);simp only [D.fines,D.fine];exact ⟨trivial,zh2 r⟩
theorem z3k {nm:ByteArray} {pb:Bool} {ps ls:List ByteArray} {b:List St} (h1:ps.length<=10000) (h2:ls.length<=10000) (h3:b.length<=10000) (h4:D.fines (zbu b)):D.fines (Pr.mk nm pb ps ls b).ds:=by
 simp only [Pr.ds,D.fines,D.fine];refine ⟨trivial,trivial,⟨?_,?_,zh2 _⟩,⟨?_,?_,zh2 _⟩,⟨?_,?_,h4⟩,trivial⟩
 . simp [zam]
 . simp [zam];omega
 . simp [zam]
 . simp [zam];omega
 . rw [zeo];omega
 . rw [zeo];omega
theorem zr6 {l l':List Tk} {p:Pr} (h:zfi l=some (p,l')) (hg:zh0 l):l=tP p++l'/\D.fines p.ds:=by
 have ep:=zxn hg.1;have gp:=hg.of_eq ep;unfold zfi at h
 split at h
 . rename_i hs
   have e:=za3 gp.1 (by decide) hs
   split at h
   . cases h
   rename_i n l1 h1
   obtain ⟨e1,n1⟩:=zd2 (gp.tl e).1 h1;have g1:=(gp.tl e).tl e1
   split at h
   . rename_i hs2
     have e2:=za3 g1.1 (by decide) hs2;have g2:=g1.tl e2
     split at h
     . cases h
     rename_i ps l2 h2
     obtain ⟨e3,c3⟩:=zr5 h2 g2;have g3':=g2.of_eq e3;have g3:zh0 l2:=g3'.tl rfl
     split at h
     . cases h
     rename_i ls l3 h3
     obtain ⟨e4,c4⟩:=zhg zei (by decide) _ [] _ _ _ h3 g3
     have e4':l2=z0r zei ls++l3:=by simpa [z0r] using e4
     have g4:=g3.of_eq e4'
     split at h
     . cases h
     rename_i b l4 h4
     obtain ⟨e5,f5,c5⟩:=zd8 _ _ _ _ h4 g4;obtain ⟨rfl,rfl⟩:=vak (vac h);have k2:l1.tail.length<=4096:=g2.2;have k3:=g3.2;have k4:=g4.2;refine ⟨?_,z3k (by omega) (by simp at c4;omega) (by omega) f5⟩;refine ep.trans ?_
     rw [e,show (zh7 l).tail=wTk n :: l1 from e1,e2,show l1.tail=zm7 ps++kTk tRp :: l2 from e3,e4',e5];simp [tP]
   . cases h
 . cases h
theorem zjf:∀ (f:Nat) (acc:List De) (l l':List Tk) (ds:List De),zfj f acc l=some (ds,l')->zh0 l->D.fines (zj4 acc)->acc.flatMap tD++l=ds.flatMap tD++l'/\D.fines (zj4 ds)/\ds.length<=acc.length+l.length
 | 0,_,_,_,_,h,_,_=>by simp [zfj] at h
 | f + 1,acc,l,l',ds,h,hg,hf=>by
   unfold zfj at h
   split at h
   . split at h
     . cases h
     rename_i d l1 h1
     obtain ⟨e1,f1⟩:=zr4 h1 hg;have hlt:=zt4 h1;obtain ⟨e2,f2,c2⟩:=zjf f (acc++[d]) l1 l' ds h (hg.of_eq e1) (by rw [show zj4 (acc++[d])=zj4 acc++d.ds from by simp [zj4]];exact D.fines_append hf f1);refine ⟨?_,f2,by simp at c2;omega⟩
     rw [← e2,e1];simp
   . obtain ⟨rfl,rfl⟩:=vak (vac h)
     exact ⟨rfl,hf,by omega⟩
theorem zjg:∀ (f:Nat) (acc:List Pr) (l l':List Tk) (ps:List Pr),zfk f acc l=some (ps,l')->zh0 l->D.fines (zic acc)->acc.flatMap tP++l=ps.flatMap tP++kTk zrk :: l'/\D.fines (zic ps)/\ps.length<=acc.length+l.length
 | 0,_,_,_,_,h,_,_=>by simp [zfk] at h
 | f + 1,acc,l,l',ps,h,hg,hf=>by
   unfold zfk at h
   split at h
   . rename_i hs
     obtain ⟨rfl,rfl⟩:=vak (vac h);exact ⟨by rw [← za3 hg.1 (by decide) hs],hf,by omega⟩
   . split at h
     . cases h
     rename_i p l1 h1
     obtain ⟨e1,f1⟩:=zr6 h1 hg;have hlt:=zt6 h1;obtain ⟨e2,f2,c2⟩:=zjg f (acc++[p]) l1 l' ps h (hg.of_eq e1) (by rw [show zic (acc++[p])=zic acc++p.ds from by simp [zic]];exact D.fines_append hf f1);refine ⟨?_,f2,by simp at c2;omega⟩
     rw [← e2,e1];simp
def tM (m:Mo):List Tk:=kTk zn1 :: wTk m.name :: kTk tLb :: (z0r zth m.uses++(m.decls.flatMap tD++(m.procs.flatMap tP++kTk zrk :: (brT (tSs m.main)++[kTk tRb]))))
structure Fine (m:Mo):Prop where
 uses:m.uses.length<=10000
 decls:m.decls.length<=10000
 procs:m.procs.length<=10000
 main:m.main.length<=10000
 fd:D.fines (zj4 m.decls)
 fp:D.fines (zic m.procs)
 fm:D.fines (zbu m.main)
theorem zom {l l':List Tk} {m:Mo} (h:zcl l=some (m,l')) (hg:zh0 l):l=tM m++l'/\Fine m:=by
 unfold zcl at h
 split at h
 . rename_i hs
   have e:=za3 hg.1 (by decide) hs
   split at h
   . cases h
   rename_i n l1 h1
   obtain ⟨e1,n1⟩:=zd2 (hg.tl e).1 h1;have g1:=(hg.tl e).tl e1
   split at h
   . rename_i hs2
     have e2:=za3 g1.1 (by decide) hs2;have g2:=g1.tl e2;have k2:l1.tail.length<=4096:=g2.2
     split at h
     . cases h
     rename_i us l2 h2
     obtain ⟨e3,c3⟩:=zhg zth (by decide) _ [] _ _ _ h2 g2
     have e3':l1.tail=z0r zth us++l2:=by simpa [z0r] using e3
     have g3:=g2.of_eq e3';have k3:=g3.2
     split at h
     . cases h
     rename_i ds l3 h3
     obtain ⟨e4,f4,c4⟩:=zjf _ [] _ _ _ h3 g3 zdf
     have e4':l2=ds.flatMap tD++l3:=by simpa using e4
     have g4:=g3.of_eq e4';have k4:=g4.2
     split at h
     . cases h
     rename_i ps l4 h4
     obtain ⟨e5,f5,c5⟩:=zjg _ [] _ _ _ h4 g4 zdf
     have e5':l3=ps.flatMap tP++kTk zrk :: l4:=by simpa using e5
     have g5:zh0 l4:=(g4.of_eq e5').tl rfl;have k5:=g5.2
     split at h
     . cases h
     rename_i b l5 h5
     obtain ⟨e6,f6,c6⟩:=zd8 _ _ _ _ h5 g5;have g6:=g5.of_eq e6
     split at h
     . rename_i hs3
       have e7:=za3 g6.1 (by decide) hs3;obtain ⟨rfl,rfl⟩:=vak (vac h);refine ⟨?_,⟨by show us.length<=10000;simp at c3 k2;omega,by show ds.length<=10000;simp at c4;omega,by show ps.length<=10000;simp at c5;omega,by show b.length<=10000;omega,f4,f5,f6⟩⟩
       rw [e,show l.tail=wTk n :: l1 from e1,e2,e3',e4',e5',e6,e7];simp [tM]
     . cases h
   . cases h
 . cases h
inductive exOk:Ex->Prop
 | mk {op n:Int} {m nm:ByteArray} {args:List Ex} (h1:exB op=true) (h2:zc9 (exS op) m nm=true) (h3:nOk (exS op) n=true) (h4:zbd (exS op) args.length=true) (h5:∀ a ∈ args,exOk a):exOk (.mk op n m nm args)
theorem z5j:∀ (k:Nat) (l:List Ex),zbe k l=true->zau k l=false->zbm k l=true->∀ x ∈ l,exOk x
 | 0,l,_,h2,_,x,hx=>by
   simp [zau] at h2;rw [h2] at hx;cases hx
 | k+1,l,h1,h2,h3,x,hx=>by
   simp only [zbe,vax] at h1;simp only [zau,vay] at h2;simp only [zbm,vax] at h3;have a1:=h1 x hx;have a3:=h3 x hx
   have a2:zau k x.args=false:=by
    have:=h2.2;rw [vcj] at this;simpa using this x hx
   simp only [vad] at a1 a3;obtain ⟨op,n,m,nm,args⟩:=x;exact .mk a1.1 a3.1 a3.2.1 a3.2.2.1 (z5j k args a1.2 a2 a3.2.2.2)
theorem zxo {α:Type} {l:List α} (h:decide (0<l.length)=false):l=[]:=vao (by have:=of_decide_eq_false h;omega)
inductive stOk:St->Prop
 | mk {op:Int} {m nm:ByteArray} {args:List Ex} {body other:List St} (h1:stB op=true) (h2:zc9 (stS op) m nm=true) (h3:zbd (stS op) args.length=true) (h4:∀ a ∈ args,exOk a) (h5:(stS op).body=true\/body=[]) (h6:(stS op).other=true\/other=[]) (h7:∀ s ∈ body,stOk s) (h8:∀ s ∈ other,stOk s):stOk (.mk op m nm args body other)
theorem z3l:∀ (k:Nat) (l:List St),zav k l=true->zal k l=false->zaw k l=true->∀ s ∈ l,stOk s
 | 0,l,_,h2,_,x,hx=>by simp [zal] at h2
 | k + 1,l,h1,h2,h3,x,hx=>by
   simp only [zav,vax] at h1;simp only [zal,vay] at h2;simp only [zaw,vax] at h3;have a1:=h1 x hx;have a3:=h3 x hx;have a2:=h2.2;rw [vcj] at a2;have a2:=a2 x hx;simp only [vad] at a1 a3;simp only [vdc,vay,vcp] at a2;obtain ⟨op,m,nm,args,body,other⟩:=x
   have hb:(stS op).body=true\/body=[]:=by
    have:=a3.2.2.2.1;simp [St.op,St.body] at this;exact this
   have ho:(stS op).other=true\/other=[]:=by
    have:=a3.2.2.2.2.1;simp [St.op,St.other] at this;exact this
   have hbm:body=[]\/zal k body=false:=by
    rcases a2.2.1 with h | h
    . left
      simp [St.op,St.body] at h;exact zxo h.2
    . exact Or.inr h
   have hom:other=[]\/zal k other=false:=by
    rcases a2.2.2 with h | h
    . left
      exact zxo h
    . exact Or.inr h
   refine .mk a1.1 a3.1 a3.2.1 (z5j 6 args a1.2.1 a2.1 a3.2.2.1) hb ho ?_ ?_
   . rcases hbm with h | h
     . rw [h];intro s hs;cases hs
     . exact z3l k body a1.2.2.1 h a3.2.2.2.2.2.1
   . rcases hom with h | h
     . rw [h];intro s hs;cases hs
     . exact z3l k other a1.2.2.2 h a3.2.2.2.2.2.2
structure moOk (m:Mo):Prop where
 name:nameOk m.name=true
 uses:∀ u ∈ m.uses,nameOk u=true
 decls:∀ d ∈ m.decls,nameOk d.name=true/\zek d=true/\1<=d.kind/\d.kind<=3
 procs:∀ p ∈ m.procs,nameOk p.name=true/\(∀ n ∈ p.params,nameOk n=true)/\(∀ n ∈ p.locals,nameOk n=true)/\(∀ s ∈ p.body,stOk s)
 main:∀ s ∈ m.main,stOk s
theorem zty {m:Mo} (h:m.err=0):m.kinds=true/\m.many=false/\m.form=true:=by
 unfold Mo.err at h
 cases hk:m.kinds with
 | false=>rw [hk] at h;simp at h
 | true=>
   rw [hk] at h
   cases hm:m.many with
   | true=>rw [hm] at h;simp at h
   | false=>
     rw [hm] at h
     cases hf:m.form with
     | false=>rw [hf] at h;simp at h
     | true=>exact ⟨rfl,rfl,rfl⟩
theorem z64 {m:Mo} (h:m.err=0):moOk m:=by
 obtain ⟨hk,hm,hf⟩:=zty h;unfold Mo.kinds at hk;unfold Mo.many at hm;unfold Mo.form at hf;simp only [vad,vax,decide_eq_true_eq] at hk hf;simp only [vay] at hm;have hmb:=hm.2.2.2.2;rw [vcj] at hmb
 have body:∀ b ∈ m.bodies,∀ s ∈ b,stOk s:=fun b hb=>z3l 6 b (hk.2 b hb) (by simpa using hmb b hb) (hf.2.2.2.2 b hb)
 exact {
  name:=hf.1
  uses:=hf.2.1
  decls:=fun d hd=>⟨(hf.2.2.1 d hd).1,(hf.2.2.1 d hd).2,hk.1 d hd⟩
  procs:=fun p hp=>⟨(hf.2.2.2.1 p hp).1,(hf.2.2.2.1 p hp).2.1,(hf.2.2.2.1 p hp).2.2,body p.body (by unfold Mo.bodies;simp;exact Or.inl ⟨p,hp,rfl⟩)⟩
  main:=body m.main (by unfold Mo.bodies;simp) }
theorem zc7.append {a b:List Tk} (h:zc7 a) (k:zc7 b):zc7 (a++b):=⟨by rw [vch,h.1,k.1];rfl,by rw [vch,h.2,k.2];rfl⟩
theorem zc7.cons {t:Tk} {b:List Tk} (h:zc7 [t]) (k:zc7 b):zc7 (t :: b):=zc7.append (a:=[t]) h k
theorem zc7.nil:zc7 []:=⟨rfl,rfl⟩
end Go.Proofs.YtndkhgakfodldaaGreatDoor
