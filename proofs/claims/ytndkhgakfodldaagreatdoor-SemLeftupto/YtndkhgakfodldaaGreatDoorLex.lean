import Derived.Test.YtndkhgakfodldaaGreatDoorStep
import Derived.Test.YtndkhgakfodldaaGreatDoorPj
namespace Go.Proofs.YtndkhgakfodldaaGreatDoor
set_option maxRecDepth 100000
set_option maxHeartbeats 400000
open Go.RowKit
theorem zzx (s:ByteArray) (w:World) (hs:s.size<=maxLen) :
 Calls Tryz.prog 114 #[.string s] w fun e w'=>∃ a cap,e = .returned (.tuple #[.slice a (lexT s).length cap,.int .i64 (lexE s)])/\zcn w' a (lexT s)/\Below w.heap.size w w':=by
 unfold maxLen at hs
 by_cases hlong:4096<s.size
 . have HE:Hid (lexT s=[]/\lexE s=2):=zxe hlong
   go_enter Tryz.func114,Tryz.ntmps114;go_wp2_with fail;go_ret2;exact ⟨none,0,by rw [HE.out.1,HE.out.2];rfl,by rw [HE.out.1];exact Or.inl rfl,Below.refl _ _⟩
 . have HC:Hid (Calls Tryz.prog 157 #[.string s] w fun e w'=>∃ a cap,e = .returned (.tuple #[.slice a (lexT s).length cap,.int .i64 (lexE s)])/\zcn w' a (lexT s)/\Below w.heap.size w w'):=zsq s w (by omega)
   generalize lexT s=ts at *;generalize lexE s=n at *;go_enter Tryz.func114,Tryz.ntmps114;go_wp2_with fail;refine HC.out.mono ?_;rintro e w2 ⟨a,cap,rfl,hT,hb⟩;have HT:Hid (zcn w2 a ts):=hT;clear hT HC;go_wp2_with fail;go_ret2;exact ⟨a,cap,rfl,HT.out,hb⟩
def z1s:Nat->ByteArray->Nat->Option (List Tk)
 | 0,s,a=>if a<s.size then none else some []
 | f + 1,s,a=>
   if h:a<s.size then
    if zdz s[a] then z1s f s (a+Lx.pieceN s a)
    else match zcm (s.extract a (a+Lx.pieceN s a)) with
     | none=>none
     | some t=>(z1s f s (a+Lx.pieceN s a)).map (t :: ·)
   else some []
theorem zug:∀ (f:Nat) (s:ByteArray) (a:Nat),s.size - a<=f->z1s f s a=zct s a
 | 0,s,a,h=>by rw [ziu s a (by omega)];unfold z1s;rw [if_neg (by omega)]
 | f+1,s,a,h=>by
   have hp:=Lx.zfk s a;have ih:=zug f s (a+Lx.pieceN s a) (by omega);rw [zct,z1s,ih]
   cases zcm (s.extract a (a+Lx.pieceN s a))<;>rfl
def zgq (l:L8):Nat:=if Lx.z09 l=0 then 1 else Lx.z09 l
theorem zkn (l:L8):0<zgq l:=by unfold zgq;split<;>omega
def ztd:L8->Option (List Tk)
 | []=>some []
 | c :: l=>
   if zdz c then ztd ((c :: l).drop (zgq (c :: l)))
   else match zcm (strOf ((c :: l).take (zgq (c :: l)))) with
    | none=>none
    | some t=>(ztd ((c :: l).drop (zgq (c :: l)))).map (t :: ·)
termination_by l=>l.length
decreasing_by
 all_goals have:=zkn (c :: l);simp only [vbt,vat];omega
theorem zo5 (s:ByteArray) (a n:Nat):s.extract a (a+n)=strOf ((s.data.toList.drop a).take n):=by
 rw [← zr5,strOf_back]
theorem zr7:∀ (n:Nat) (s:ByteArray) (a:Nat),s.size - a=n->zct s a=ztd (s.data.toList.drop a):=by
 intro n
 induction n using Nat.strongRecOn with
 | _ n ih=>
   intro s a hn
   by_cases h:a<s.size
   . have hd:=zud s a h
     have hp:Lx.pieceN s a=zgq (s.data.toList.drop a):=rfl;have hpos:=Lx.zfk s a;have ih':=ih (s.size - (a+Lx.pieceN s a)) (by omega) s (a+Lx.pieceN s a) rfl
     have hdd:s.data.toList.drop (a+Lx.pieceN s a)=(s.data.toList.drop a).drop (Lx.pieceN s a):=by rw [List.drop_drop]
     cases hb:zdz s[a] with
     | true=>
       rw [ziv s a h hb,ih',hdd,hp,hd,ztd,if_pos hb]
     | false=>
       have he:=zo5 s a (Lx.pieceN s a)
       cases ht:zcm (s.extract a (a+Lx.pieceN s a)) with
       | none=>
         rw [zkl s a h hb ht];rw [he,hp,hd] at ht;rw [hd,ztd,if_neg (by simp [hb]),ht]
       | some t=>
         rw [zkm s a t h hb ht,ih',hdd];rw [he,hp,hd] at ht;rw [hp,hd,ztd,if_neg (by simp [hb]),ht]
   . rw [ziu s a h,vcg (by rw [Lx.zau];omega),ztd]
theorem zr8 (s:ByteArray):zct s 0=ztd s.data.toList:=by
 have:=zr7 _ s 0 rfl;rwa [List.drop_zero] at this
theorem zo6 {s:ByteArray} {t:Tk} (h:zcm s=some t):zdh t=true/\Tk.okB t=true:=by
 unfold zcm at h
 split at h
 . rename_i hs
   cases h;exact ⟨rfl,by unfold Tk.okB;simp [hs]⟩
 . split at h
   . rename_i hn
     cases h;exact ⟨rfl,by unfold Tk.okB;simp [hn]⟩
   . split at h
     . rename_i hk
       cases h;refine ⟨rfl,?_⟩
       have hv:Lx.valL s.data.toList<=1099511627775:=by unfold Lx.zfw at hk;simp at hk;exact hk.2
       unfold Tk.okB;rw [vax];simp;omega
     . cases h
theorem zr9:∀ (n:Nat) (l:L8) (ts:List Tk),l.length=n->ztd l=some ts->zch ts/\ts.length<=l.length:=by
 intro n
 induction n using Nat.strongRecOn with
 | _ n ih=>
   intro l ts hn h
   cases l with
   | nil=>rw [ztd] at h;cases h;exact ⟨⟨rfl,rfl⟩,vaa _⟩
   | cons c r=>
     have hpos:=zkn (c :: r)
     have hlen:((c :: r).drop (zgq (c :: r))).length<n:=by rw [vbt];simp at hn ⊢;omega
     rw [ztd] at h
     split at h
     . obtain ⟨h1,h2⟩:=ih _ hlen _ ts rfl h
       exact ⟨h1,by omega⟩
     . cases ht:zcm (strOf ((c :: r).take (zgq (c :: r)))) with
       | none=>rw [ht] at h;cases h
       | some t=>
         rw [ht] at h
         cases hr:ztd ((c :: r).drop (zgq (c :: r))) with
         | none=>rw [hr] at h;cases h
         | some us=>
           rw [hr] at h;cases h;obtain ⟨h1,h2⟩:=ih _ hlen _ us rfl hr;obtain ⟨hk,ho⟩:=zo6 ht;refine ⟨⟨?_,?_⟩,?_⟩
           . rw [vcm,hk,h1.1];rfl
           . rw [vcm,ho,h1.2];rfl
           . simp only [vat] at *;omega
def kTk (t:ByteArray):Tk:=⟨if Lx.zcc t.data.toList then 1 else 3,0,t⟩
def wTk (t:ByteArray):Tk:=⟨1,0,t⟩
def nTk (n:Int):Tk:=⟨2,n,⟨#[]⟩⟩
theorem zuh {l:L8} (h:Lx.zh6 l=true):Lx.zcc l=false:=by
 match l,h with
 | [c],h=>
   have h':Lx.signs.contains c=true:=h
   have key:∀ c ∈ Lx.signs,Lx.zcc [c]=false:=by decide
   exact key c (vcj.1 h')
theorem zch.of_app {a b:List Tk} (h:zch (a++b)):zch b:=by
 obtain ⟨h1,h2⟩:=h;rw [vbj,vae] at h1 h2;exact ⟨h1.2,h2.2⟩
theorem zch.head {t:Tk} {b:List Tk} (h:zch (t :: b)):zdh t=true/\Tk.okB t=true:=by
 obtain ⟨h1,h2⟩:=h;rw [vcm,vae] at h1 h2;exact ⟨h1.1,h2.1⟩
theorem zch.of_eq {a b c:List Tk} (h:zch a) (e:a=b++c):zch c:=by rw [e] at h;exact h.of_app
theorem zko {s t:ByteArray} (h:s.toList=t.toList):s=t:=by
 rw [vax,vax] at h;exact ByteArray.ext (Array.ext' h)
theorem zat {l:List Tk} {t:ByteArray} (hr:zch l) (ht:0<t.size) (h:skB l t=true):l=kTk t :: l.tail:=by
 cases l with
 | nil=>exact absurd rfl (zto ht h)
 | cons x r=>
   obtain ⟨hk,ho⟩:=hr.head;obtain ⟨k,n,s⟩:=x;have hs:s=t:=zko (beq_iff_eq.1 h);subst hs;show Tk.mk k n s :: r=kTk s :: r
   have hne:s.toList.isEmpty=false:=by
    cases he:s.toList.isEmpty with
    | false=>rfl
    | true=>
      rw [vax] at he;have h1:=Lx.zau s;rw [List.isEmpty_iff.1 he] at h1;simp at h1;omega
   unfold zdh at hk;simp only [vae,decide_eq_true_eq] at hk;unfold Tk.okB at ho
   have h123:k=1\/k=2\/k=3:=by omega
   rcases h123 with rfl | rfl | rfl
   . simp at ho
     unfold kTk
     rw [ho.1,ho.2];rfl
   . simp [hne] at ho
   . simp at ho
     unfold kTk
     rw [ho.1,zuh ho.2];rfl
theorem zxf (s:ByteArray):zlj s=znx s:=by
 unfold zlj znx;rw [vax];show zzu.any _=kept.contains _;rw [vcr,vdr,vcj]
 constructor
 . rintro ⟨x,hx,h⟩
   rw [beq_iff_eq.1 h];exact hx
 . intro h
   exact ⟨_,h,beq_self_eq_true _⟩
theorem zcz {l l':List Tk} {a:ByteArray} (hr:zch l) (h:zcs l=some (a,l')):l=wTk a :: l'/\nameOk a=true:=by
 unfold zcs at h
 split at h
 . rename_i hk
   obtain ⟨rfl,rfl⟩:=vak (vab h);simp only [vae,beq_iff_eq,Bool.not_eq_true'] at hk
   cases l with
   | nil=>exact absurd hk.1 (by decide)
   | cons x r=>
     obtain ⟨_,ho⟩:=hr.head;obtain ⟨k,n,s⟩:=x;have e1:k=1:=hk.1;have e2:zlj s=false:=hk.2;subst e1;unfold Tk.okB at ho;simp at ho;have e3:n=0:=ho.1;subst e3;refine ⟨rfl,?_⟩;show nameOk s=true;unfold nameOk
     rw [← zxf,e2,ho.2];rfl
 . cases h
theorem zo7 {l l':List Tk} {a:Int} (hr:zch l) (h:pNum l=some (a,l')):l=nTk a :: l'/\0<=a/\a<=1099511627775:=by
 unfold pNum at h
 split at h
 . rename_i hk
   obtain ⟨rfl,rfl⟩:=vak (vab h)
   cases l with
   | nil=>exact absurd hk (by decide)
   | cons x r=>
     obtain ⟨_,ho⟩:=hr.head;obtain ⟨k,n,s⟩:=x;have e1:k=2:=hk;subst e1;unfold Tk.okB at ho;simp at ho
     have e2:s=⟨#[]⟩:=by
      apply zko
      rw [ho.1,vax]
     subst e2;exact ⟨rfl,ho.2⟩
 . cases h
def zzb (m n:ByteArray):List Tk:=if m.size=0 then [wTk n] else [wTk m,kTk zzt,wTk n]
theorem zxg {s:ByteArray} (h:nameOk s=true):0<s.size:=by
 rcases vcn s.size with h0 | h0
 . exfalso
   have:s.data.toList=[]:=vam (by rw [Lx.zau];exact h0);unfold nameOk at h;rw [this] at h;simp [Lx.zcc,Lx.zl3] at h
 . exact h0
theorem zui {l l':List Tk} {m n:ByteArray} (hr:zch l) (h:ztb l=some ((m,n),l')):l=zzb m n++l'/\nameOk n=true/\(m.size=0\/nameOk m=true):=by
 unfold ztb at h
 split at h
 . cases h
 rename_i a l1 h1
 obtain ⟨e1,n1⟩:=zcz hr h1;have r1:zch l1:=hr.of_eq (b:=[wTk a]) e1
 split at h
 . rename_i hs
   have e2:=zat r1 (by decide) hs
   split at h
   . cases h
   rename_i b l2 h2
   obtain ⟨e3,n3⟩:=zcz (r1.of_eq (b:=[kTk zzt]) e2) h2;obtain ⟨h3,rfl⟩:=vak (vab h);obtain ⟨rfl,rfl⟩:=vak h3;refine ⟨?_,n3,Or.inr n1⟩;unfold zzb
   rw [if_neg (by have:=zxg n1;omega),e1,e2,show l1.tail=wTk b :: l2 from e3];rfl
 . obtain ⟨h3,rfl⟩:=vak (vab h)
   obtain ⟨rfl,rfl⟩:=vak h3;exact ⟨e1,n1,Or.inl rfl⟩
def z2u (op:Int):Tk:=kTk (opTexts.getD (op - 7).toNat ⟨#[]⟩)
def zc5:List (List Tk)->List Tk
 | []=>[]
 | [x]=>x
 | x :: y :: r=>x++kTk zwr :: zc5 (y :: r)
def exTok (op n:Int) (m nm:ByteArray) (xs:List (List Tk)):List Tk:=
 if op=1 then [nTk n] else if op=2 then [kTk tIn] else if op=3 then zzb m nm
 else if op=4 then zzb m nm++kTk tLs :: (xs.getD 0 []++[kTk tRs])
 else if op=5 then zzb m nm++kTk tLp :: (zc5 xs++[kTk tRp])
 else if op=6 then kTk z1g :: xs.getD 0 []
 else kTk tLp :: (xs.getD 0 []++z2u op :: (xs.getD 1 []++[kTk tRp]))
mutual
def tE:Ex->List Tk
 | .mk op n m nm args=>exTok op n m nm (tEs args)
def tEs:List Ex->List (List Tk)
 | []=>[]
 | x :: r=>tE x :: tEs r
end
theorem zkp:∀ (a b:List Ex),tEs (a++b)=tEs a++tEs b
 | [],b=>by simp [tEs]
 | x :: r,b=>by simp [tEs,zkp r b]
theorem zuj:∀ (a:List Ex),(tEs a).length=a.length
 | []=>by simp [tEs]
 | x :: r=>by simp [tEs,zuj r]
theorem zf5:∀ (a:List (List Tk)) (x:List Tk),a≠[]->zc5 (a++[x])=zc5 a++kTk zwr :: x
 | [],_,h=>absurd rfl h
 | [y],x,_=>by simp [zc5]
 | y :: z :: r,x,_=>by
   have:=zf5 (z :: r) x (by simp);show y++kTk zwr :: zc5 ((z :: r)++[x])=(y++kTk zwr :: zc5 (z :: r))++kTk zwr :: x
   rw [this];simp
theorem zar {n:Int} (h0 : -9223372036854775808<=n) (h1:n<=9223372036854775807):(Lit.int .i64 n).wf=true:=by
 have e1:IntKind.i64.min = -9223372036854775808:=by decide
 have e2:IntKind.i64.max=9223372036854775807:=by decide
 simp [Lit.wf,e1,e2];omega
theorem zgr:∀ (l:List Ex),(zbi l).length=5*l.length
 | []=>by simp [zbi]
 | x :: r=>by
   have:=x.ds_len
   simp [zbi,zgr r,this];omega
theorem zdi:∀ (l:List St),(zbj l).length=6*l.length
 | []=>by simp [zbj]
 | x :: r=>by
   have:=x.ds_len
   simp [zbj,zdi r,this];omega
theorem zf6 {op n:Int} {m nm:ByteArray} {args:List Ex} (h1:(Lit.int .i64 op).wf=true) (h2:(Lit.int .i64 n).wf=true) (h3:args.length<=10000) (h4:D.fines (zbi args)):D.fines (Ex.mk op n m nm args).ds:=by
 unfold Ex.ds;simp only [D.fines,D.fine];refine ⟨h1,h2,trivial,trivial,⟨?_,?_,h4⟩,trivial⟩
 . rw [zgr];omega
 . rw [zgr];omega
theorem zco:D.fines []:=by unfold D.fines;trivial
theorem zc0 {x:Ex} (h:D.fines x.ds):D.fines (zbi [x]):=by rw [zid];exact h
theorem zqr {x y:Ex} (h:D.fines x.ds) (k:D.fines y.ds):D.fines (zbi [x,y]):=by
 show D.fines (x.ds++(y.ds++[]));exact D.fines_append h (D.fines_append k zco)
theorem zxh {l:List Tk} {k:Nat} (hr:zch l) (h:ztn l=some k):l=z2u (7+k) :: l.tail/\k<9:=by
 unfold ztn at h;obtain ⟨hk,h2,_⟩:=vbk.1 h
 have hp:0<(opTexts[k]).size:=by
  have:∀ x ∈ opTexts,0<x.size:=by decide
  exact this _ (vah hk)
 refine ⟨?_,hk⟩;have e:=zat hr hp h2;unfold z2u;rw [show ((7:Int)+(k:Int) - 7).toNat=k from by omega,var,vaj hk];exact e
def zgs (l:List Tk):Prop:=zch l/\l.length<=4096
theorem zgs.of_eq {a b c:List Tk} (h:zgs a) (e:a=b++c):zgs c:=⟨h.1.of_eq e,by have:=h.2;rw [e,vag] at this;omega⟩
theorem zgs.tl {a c:List Tk} {t:Tk} (h:zgs a) (e:a=t :: c):zgs c:=h.of_eq (b:=[t]) e
mutual
theorem zb8:∀ (f:Nat) (l l':List Tk) (x:Ex),zbf f l=some (x,l')->zgs l->l=tE x++l'/\D.fines x.ds
 | 0,_,_,_,h,_=>by simp [zbf] at h
 | f + 1,l,l',x,h,hg=>by
   unfold zbf at h
   split at h
   . rename_i hk
     obtain ⟨rfl,rfl⟩:=vak (vab h)
     have hn:pNum l=some ((hd l).n,l.tail):=by unfold pNum;rw [if_pos hk]
     obtain ⟨e,h0,h1⟩:=zo7 hg.1 hn;exact ⟨by simpa [tE,exTok] using e,zf6 (zar (by decide) (by decide)) (zar (by omega) (by omega)) (by simp) (by unfold zbi;exact zco)⟩
   split at h
   . rename_i hs
     obtain ⟨rfl,rfl⟩:=vak (vab h);exact ⟨by simpa [tE,exTok] using zat hg.1 (by decide) hs,zf6 (zar (by decide) (by decide)) (zar (by decide) (by decide)) (by simp) (by unfold zbi;exact zco)⟩
   split at h
   . rename_i hs
     have e:=zat hg.1 (by decide) hs
     split at h
     . cases h
     rename_i y l1 h1
     obtain ⟨rfl,rfl⟩:=vak (vab h);obtain ⟨e1,f1⟩:=zb8 f _ _ _ h1 (hg.tl e);refine ⟨?_,zf6 (zar (by decide) (by decide)) (zar (by decide) (by decide)) (by simp) (zc0 f1)⟩
     rw [e,show l.tail=tE y++l1 from e1];simp [tE,tEs,exTok]
   split at h
   . rename_i hs
     have e:=zat hg.1 (by decide) hs;obtain ⟨e1,f1⟩:=zo8 f _ _ _ h (hg.tl e);exact ⟨e.trans e1,f1⟩
   split at h
   . cases h
   rename_i m nm l1 h1
   obtain ⟨e1,n1,n2⟩:=zui hg.1 h1;have g1:=hg.of_eq e1
   split at h
   . rename_i hs
     have e2:=zat g1.1 (by decide) hs
     split at h
     . cases h
     rename_i y l2 h2
     obtain ⟨e3,f3⟩:=zb8 f _ _ _ h2 (g1.tl e2)
     split at h
     . rename_i hs2
       have e4:=zat ((g1.tl e2).of_eq e3).1 (by decide) hs2;obtain ⟨rfl,rfl⟩:=vak (vab h);refine ⟨?_,zf6 (zar (by decide) (by decide)) (zar (by decide) (by decide)) (by simp) (zc0 f3)⟩
       rw [e1,e2,show l1.tail=tE y++l2 from e3,e4];simp [tE,tEs,exTok]
     . cases h
   split at h
   . rename_i hs
     have e2:=zat g1.1 (by decide) hs
     split at h
     . cases h
     rename_i ys l2 h2
     obtain ⟨e3,f3,c3⟩:=zix f _ _ _ h2 (g1.tl e2);obtain ⟨rfl,rfl⟩:=vak (vab h);have hl3:l1.tail.length<=4096:=(g1.tl e2).2;refine ⟨?_,zf6 (zar (by decide) (by decide)) (zar (by decide) (by decide)) (by omega) f3⟩
     rw [e1,e2,show l1.tail=zc5 (tEs ys)++kTk tRp :: l2 from e3];simp [tE,exTok]
   . obtain ⟨rfl,rfl⟩:=vak (vab h)
     refine ⟨?_,zf6 (zar (by decide) (by decide)) (zar (by decide) (by decide)) (by simp) (by unfold zbi;exact zco)⟩
     rw [e1];simp [tE,exTok]
theorem zo8:∀ (f:Nat) (l l':List Tk) (x:Ex),ze2 f l=some (x,l')->zgs l->kTk tLp :: l=tE x++l'/\D.fines x.ds
 | 0,_,_,_,h,_=>by simp [ze2] at h
 | f + 1,l,l',x,h,hg=>by
   unfold ze2 at h
   split at h
   . cases h
   rename_i a l1 h1
   obtain ⟨e1,f1⟩:=zb8 f _ _ _ h1 hg;have g1:=hg.of_eq e1
   split at h
   . cases h
   rename_i k hk
   obtain ⟨e2,k9⟩:=zxh g1.1 hk
   split at h
   . cases h
   rename_i b l2 h2
   obtain ⟨e3,f3⟩:=zb8 f _ _ _ h2 (g1.tl e2)
   split at h
   . rename_i hs
     have e4:=zat ((g1.tl e2).of_eq e3).1 (by decide) hs;obtain ⟨rfl,rfl⟩:=vak (vab h);refine ⟨?_,zf6 (zar (by omega) (by omega)) (zar (by decide) (by decide)) (by simp) (zqr f1 f3)⟩
     have hop:∀ xs,exTok (7+(k:Int)) 0 ⟨#[]⟩ ⟨#[]⟩ xs=kTk tLp :: (xs.getD 0 []++z2u (7+k) :: (xs.getD 1 []++[kTk tRp])):=by
      intro xs;unfold exTok;rw [if_neg (by omega),if_neg (by omega),if_neg (by omega),if_neg (by omega),if_neg (by omega),if_neg (by omega)]
     rw [e1,e2,show l1.tail=tE b++l2 from e3,e4];simp only [tE,hop,tEs];simp
   . cases h
theorem zix:∀ (f:Nat) (l l':List Tk) (xs:List Ex),zdo f l=some (xs,l')->zgs l->l=zc5 (tEs xs)++kTk tRp :: l'/\D.fines (zbi xs)/\xs.length<=l.length
 | 0,_,_,_,h,_=>by simp [zdo] at h
 | f + 1,l,l',xs,h,hg=>by
   unfold zdo at h
   split at h
   . rename_i hs
     obtain ⟨rfl,rfl⟩:=vak (vab h);exact ⟨by simpa [tEs,zc5] using zat hg.1 (by decide) hs,by unfold zbi;exact zco,by simp⟩
   split at h
   . cases h
   rename_i x l1 h1
   obtain ⟨e1,f1⟩:=zb8 f _ _ _ h1 hg;have hlt:=zb5 f _ _ _ h1;obtain ⟨e2,f2,c2⟩:=ziy f [x] l1 l' xs h (hg.of_eq e1) (by simp) (by have:=hg.2;simp;omega) (zc0 f1);refine ⟨?_,f2,by simp at c2;omega⟩
   rw [e1,← e2];simp [tEs,zc5]
theorem ziy:∀ (f:Nat) (acc:List Ex) (l l':List Tk) (xs:List Ex),zfv f acc l=some (xs,l')->zgs l->acc≠[]->acc.length+l.length<=10000->D.fines (zbi acc)->zc5 (tEs acc)++l=zc5 (tEs xs)++kTk tRp :: l'/\D.fines (zbi xs)/\xs.length<=acc.length+l.length
 | 0,_,_,_,_,h,_,_,_,_=>by simp [zfv] at h
 | f + 1,acc,l,l',xs,h,hg,hne,hc,hf=>by
   unfold zfv at h
   split at h
   . rename_i hs
     have e:=zat hg.1 (by decide) hs;have hl:=zaj (by decide) hs
     split at h
     . cases h
     rename_i x l1 h1
     obtain ⟨e1,f1⟩:=zb8 f _ _ _ h1 (hg.tl e);have hlt:=zb5 f _ _ _ h1;obtain ⟨e2,f2,c2⟩:=ziy f (acc++[x]) l1 l' xs h ((hg.tl e).of_eq e1) (by simp) (by simp;omega) (by rw [zgf];exact D.fines_append hf (zc0 f1));refine ⟨?_,f2,by simp at c2;omega⟩;rw [← e2,zkp,show tEs [x]=[tE x] from by simp [tEs],zf5 _ _ (by intro h0;apply hne;have:=zuj acc;rw [h0] at this;exact vam this.symm),e,show l.tail=tE x++l1 from e1];simp
   split at h
   . rename_i hs
     obtain ⟨rfl,rfl⟩:=vak (vab h);exact ⟨by rw [← zat hg.1 (by decide) hs],hf,by omega⟩
   . cases h
end
def zo9 (op:Int) (m nm:ByteArray) (xs:List (List Tk)):List Tk:=
 if op=1 then zzb m nm++kTk tEq :: xs.getD 0 []
 else if op=2 then zzb m nm++kTk tLs :: (xs.getD 0 []++kTk tRs :: kTk tEq :: xs.getD 1 [])
 else if op=3 then zzb m nm++kTk tLp :: (zc5 xs++[kTk tRp])
 else if op=6 then kTk zel :: xs.getD 0 [] else kTk zy4 :: xs.getD 0 []
def brT (x:List Tk):List Tk:=kTk tLb :: (x++[kTk tRb])
def zuk (op:Int) (m nm:ByteArray) (xs:List (List Tk)) (b o:List Tk) (k:Nat):List Tk:=
 if op=4 then kTk tIf :: (xs.getD 0 []++(brT b++(if k=0 then [] else kTk zor :: brT o)))
 else if op=5 then kTk zf0 :: (xs.getD 0 []++brT b)
 else zo9 op m nm xs++[kTk zgl]
mutual
def tS:St->List Tk
 | .mk op m nm args body other=>zuk op m nm (tEs args) (tSs body) (tSs other) other.length
def tSs:List St->List Tk
 | []=>[]
 | s :: r=>tS s++tSs r
end
theorem zkq:∀ (a b:List St),tSs (a++b)=tSs a++tSs b
 | [],b=>by simp [tSs]
 | x :: r,b=>by simp [tSs,zkq r b]
theorem zzy (s:St):tSs [s]=tS s:=by simp [tSs]
theorem ze5 {op:Int} {m nm:ByteArray} {args:List Ex} {body other:List St} (h1:(Lit.int .i64 op).wf=true) (h3:args.length<=10000) (h4:D.fines (zbi args)) (h5:body.length<=10000) (h6:D.fines (zbj body)) (h7:other.length<=10000) (h8:D.fines (zbj other)):D.fines (St.mk op m nm args body other).ds:=by
 unfold St.ds;simp only [D.fines,D.fine];refine ⟨h1,trivial,trivial,⟨?_,?_,h4⟩,⟨?_,?_,h6⟩,⟨?_,?_,h8⟩,trivial⟩
 . rw [zgr];omega
 . rw [zgr];omega
 . rw [zdi];omega
 . rw [zdi];omega
 . rw [zdi];omega
 . rw [zdi];omega
theorem zcv:D.fines (zbj []):=by unfold zbj;exact zco
theorem zen {l l':List Tk} {x:Ex} (h:pX l=some (x,l')) (hg:zgs l):l=tE x++l'/\D.fines x.ds:=zb8 _ _ _ _ h hg
theorem zul {l l':List Tk} {xs:List Ex} (h:pAs l=some (xs,l')) (hg:zgs l):l=zc5 (tEs xs)++kTk tRp :: l'/\D.fines (zbi xs)/\xs.length<=l.length:=zix _ _ _ _ h hg
def zzc:St->List Tk
 | .mk op m nm args _ _=>zo9 op m nm (tEs args)
theorem znj {l l':List Tk} {s:St} (h:zbk l=some (s,l')) (hg:zgs l):l++[]=zzc s++l'/\D.fines s.ds/\s.op≠4/\s.op≠5:=by
 unfold zbk at h
 split at h
 . cases h
 rename_i m nm l1 h1
 obtain ⟨e1,n1,n2⟩:=zui hg.1 h1;have g1:=hg.of_eq e1
 split at h
 . rename_i hs
   have e2:=zat g1.1 (by decide) hs
   split at h
   . cases h
   rename_i x l2 h2
   obtain ⟨e3,f3⟩:=zen h2 (g1.tl e2);obtain ⟨rfl,rfl⟩:=vak (vab h);refine ⟨?_,ze5 (zar (by decide) (by decide)) (by simp) (zc0 f3) (by simp) zcv (by simp) zcv,by simp [St.op],by simp [St.op]⟩
   rw [vcf,e1,e2,show l1.tail=tE x++l2 from e3];simp [zzc,tEs,zo9]
 split at h
 . rename_i hs
   have e2:=zat g1.1 (by decide) hs
   split at h
   . cases h
   rename_i x l2 h2
   obtain ⟨e3,f3⟩:=zen h2 (g1.tl e2);have g3:=(g1.tl e2).of_eq e3
   split at h
   . rename_i hs2
     have e4:=zat g3.1 (by decide) hs2
     split at h
     . rename_i hs3
       have e5:=zat (g3.tl e4).1 (by decide) hs3
       split at h
       . cases h
       rename_i y l3 h3
       obtain ⟨e6,f6⟩:=zen h3 ((g3.tl e4).tl e5);obtain ⟨rfl,rfl⟩:=vak (vab h);refine ⟨?_,ze5 (zar (by decide) (by decide)) (by simp) (zqr f3 f6) (by simp) zcv (by simp) zcv,by simp [St.op],by simp [St.op]⟩
       rw [vcf,e1,e2,show l1.tail=tE x++l2 from e3,e4,show l2.tail=kTk tEq :: l2.tail.tail from e5,show l2.tail.tail=tE y++l3 from e6];simp [zzc,tEs,zo9]
     . cases h
   . cases h
 split at h
 . rename_i hs
   have e2:=zat g1.1 (by decide) hs
   split at h
   . cases h
   rename_i xs l2 h2
   obtain ⟨e3,f3,c3⟩:=zul h2 (g1.tl e2);have hl3:l1.tail.length<=4096:=(g1.tl e2).2;obtain ⟨rfl,rfl⟩:=vak (vab h);refine ⟨?_,ze5 (zar (by decide) (by decide)) (by omega) f3 (by simp) zcv (by simp) zcv,by simp [St.op],by simp [St.op]⟩
   rw [vcf,e1,e2,show l1.tail=zc5 (tEs xs)++kTk tRp :: l2 from e3];simp [zzc,zo9]
 . cases h
theorem zlv {l l1 l2:List Tk} {s s':St} {r:Option (St × List Tk)} (h:zc1 r=some (s,l2)) (hr:r=some (s',l1)) (hg:zgs l) (e:l=zzc s'++l1) (h4:s'.op≠4) (h5:s'.op≠5):s=s'/\l=tS s'++l2:=by
 subst hr;unfold zc1 at h;simp only at h
 split at h
 . rename_i hs
   have e1:=zat (hg.of_eq e).1 (by decide) hs;obtain ⟨rfl,rfl⟩:=vak (vab h);refine ⟨rfl,?_⟩;obtain ⟨op,m,nm,args,body,other⟩:=s';have h4':¬ op=4:=h4;have h5':¬ op=5:=h5;rw [e,e1];simp [zzc,tS,zuk,h4',h5']
 . cases h
theorem zpa {r:Option (St × List Tk)} {s:St} {l:List Tk} (h:zc1 r=some (s,l)):∃ s' l1,r=some (s',l1):=by
 cases r with
 | none=>cases h
 | some p=>exact ⟨p.1,p.2,rfl⟩
mutual
theorem zpb:∀ (f:Nat) (l l':List Tk) (s:St),zb3 f l=some (s,l')->zgs l->l=tS s++l'/\D.fines s.ds
 | 0,_,_,_,h,_=>by simp [zb3] at h
 | f + 1,l,l',s,h,hg=>by
   unfold zb3 at h
   split at h
   . rename_i hs
     have e:=zat hg.1 (by decide) hs
     split at h
     . cases h
     rename_i x l1 h1
     obtain ⟨e1,f1⟩:=zen h1 (hg.tl e);have g1:=(hg.tl e).of_eq e1
     split at h
     . cases h
     rename_i b l2 h2
     obtain ⟨e2,f2,c2⟩:=zc6 f _ _ _ h2 g1;have g2:=g1.of_eq e2;have k1:=g1.2
     split at h
     . rename_i hs2
       have e3:=zat g2.1 (by decide) hs2
       split at h
       . cases h
       rename_i o l3 h3
       obtain ⟨e4,f4,c4⟩:=zc6 f _ _ _ h3 (g2.tl e3);have k2:l2.tail.length<=4096:=(g2.tl e3).2
       split at h
       . cases h
       rename_i ho
       obtain ⟨rfl,rfl⟩:=vak (vab h);refine ⟨?_,ze5 (zar (by decide) (by decide)) (by simp) (zc0 f1) (by omega) f2 (by omega) f4⟩
       have ho':¬ o=[]:=fun h0=>ho (by rw [h0];rfl)
       rw [e,show l.tail=tE x++l1 from e1,e2,e3,show l2.tail=brT (tSs o)++l3 from e4];simp [tS,tEs,zuk,ho']
     . obtain ⟨rfl,rfl⟩:=vak (vab h)
       refine ⟨?_,ze5 (zar (by decide) (by decide)) (by simp) (zc0 f1) (by omega) f2 (by simp) zcv⟩
       rw [e,show l.tail=tE x++l1 from e1,e2];simp [tS,tEs,zuk]
   split at h
   . rename_i hs
     have e:=zat hg.1 (by decide) hs
     split at h
     . cases h
     rename_i x l1 h1
     obtain ⟨e1,f1⟩:=zen h1 (hg.tl e);have g1:=(hg.tl e).of_eq e1
     split at h
     . cases h
     rename_i b l2 h2
     obtain ⟨e2,f2,c2⟩:=zc6 f _ _ _ h2 g1;have k1:=g1.2;obtain ⟨rfl,rfl⟩:=vak (vab h);refine ⟨?_,ze5 (zar (by decide) (by decide)) (by simp) (zc0 f1) (by omega) f2 (by simp) zcv⟩
     rw [e,show l.tail=tE x++l1 from e1,e2];simp [tS,tEs,zuk]
   split at h
   . rename_i hs
     have e:=zat hg.1 (by decide) hs
     cases h1:pX l.tail with
     | none=>rw [h1] at h;cases h
     | some p=>
       obtain ⟨x,l1⟩:=p;rw [h1] at h;obtain ⟨e1,f1⟩:=zen h1 (hg.tl e);obtain ⟨rfl,e2⟩:=zlv h rfl hg (by rw [e,e1];simp [zzc,zo9,tEs]) (by simp [St.op]) (by simp [St.op]);exact ⟨e2,ze5 (zar (by decide) (by decide)) (by simp) (zc0 f1) (by simp) zcv (by simp) zcv⟩
   split at h
   . rename_i hs
     have e:=zat hg.1 (by decide) hs
     cases h1:pX l.tail with
     | none=>rw [h1] at h;cases h
     | some p=>
       obtain ⟨x,l1⟩:=p;rw [h1] at h;obtain ⟨e1,f1⟩:=zen h1 (hg.tl e);obtain ⟨rfl,e2⟩:=zlv h rfl hg (by rw [e,e1];simp [zzc,zo9,tEs]) (by simp [St.op]) (by simp [St.op]);exact ⟨e2,ze5 (zar (by decide) (by decide)) (by simp) (zc0 f1) (by simp) zcv (by simp) zcv⟩
   . obtain ⟨s',l1,hr⟩:=zpa h
     obtain ⟨e1,f1,h4,h5⟩:=znj hr hg;rw [vcf] at e1;obtain ⟨rfl,e2⟩:=zlv h hr hg e1 h4 h5;exact ⟨e2,f1⟩
theorem zc6:∀ (f:Nat) (l l':List Tk) (b:List St),zbm f l=some (b,l')->zgs l->l=brT (tSs b)++l'/\D.fines (zbj b)/\b.length<=l.length
 | 0,_,_,_,h,_=>by simp [zbm] at h
 | f + 1,l,l',b,h,hg=>by
   unfold zbm at h
   split at h
   . rename_i hs
     have e:=zat hg.1 (by decide) hs;have hl:=zaj (by decide) hs;have k:=(hg.tl e).2;obtain ⟨e1,f1,c1⟩:=zhu f [] l.tail l' b h (hg.tl e) (by simp at k ⊢;omega) zcv;refine ⟨?_,f1,by simp at c1;omega⟩
     rw [e,show l.tail=tSs b++kTk tRb :: l' from by simpa [tSs] using e1];simp [brT]
   . cases h
theorem zhu:∀ (f:Nat) (acc:List St) (l l':List Tk) (b:List St),zdp f acc l=some (b,l')->zgs l->acc.length+l.length<=10000->D.fines (zbj acc)->tSs acc++l=tSs b++kTk tRb :: l'/\D.fines (zbj b)/\b.length<=acc.length+l.length
 | 0,_,_,_,_,h,_,_,_=>by simp [zdp] at h
 | f + 1,acc,l,l',b,h,hg,hc,hf=>by
   unfold zdp at h
   split at h
   . rename_i hs
     obtain ⟨rfl,rfl⟩:=vak (vab h);exact ⟨by rw [← zat hg.1 (by decide) hs],hf,by omega⟩
   split at h
   . cases h
   rename_i s l1 h1
   obtain ⟨e1,f1⟩:=zpb f _ _ _ h1 hg;have hlt:=zlz f _ _ _ h1;obtain ⟨e2,f2,c2⟩:=zhu f (acc++[s]) l1 l' b h (hg.of_eq e1) (by simp;omega) (by rw [zgg,zq4];exact D.fines_append hf f1);refine ⟨?_,f2,by simp at c2;omega⟩
   rw [← e2,zkq,zzy,e1];simp
end
def z2v (b:Bool):List Tk:=if b then [kTk zce] else []
theorem zum {l:List Tk} (hr:zch l):l=z2v (skB l zce)++zgx l:=by
 unfold z2v zgx
 cases h:skB l zce with
 | true=>exact zat hr (by decide) h
 | false=>rfl
def tD (d:De):List Tk:=z2v d.pub++(if d.kind=1 then [kTk zm1,wTk d.name,kTk tEq,nTk d.n,kTk zgl] else if d.kind=2 then [kTk z1f,wTk d.name,kTk zgl] else [kTk zm2,wTk d.name,kTk tLs,nTk d.n,kTk tRs,kTk zgl])
theorem zpc {k n:Int} {nm:ByteArray} {p:Bool} (h1:(Lit.int .i64 k).wf=true) (h2:(Lit.int .i64 n).wf=true):D.fines (De.mk k nm p n).ds:=by
 simp only [De.ds,D.fines,D.fine];exact ⟨h1,trivial,trivial,h2,trivial⟩
theorem zpd {l l':List Tk} {d:De} (h:zbp l=some (d,l')) (hg:zgs l):l=tD d++l'/\D.fines d.ds:=by
 have ep:=zum hg.1;have gp:=hg.of_eq ep;unfold zbp at h
 split at h
 . rename_i hs
   have e:=zat gp.1 (by decide) hs
   split at h
   . cases h
   rename_i n l1 h1
   obtain ⟨e1,n1⟩:=zcz (gp.tl e).1 h1;have g1:=(gp.tl e).tl e1
   split at h
   . rename_i hs2
     have e2:=zat g1.1 (by decide) hs2
     split at h
     . cases h
     rename_i k l2 h2
     obtain ⟨e3,k0,k1⟩:=zo7 (g1.tl e2).1 h2;have g3:=(g1.tl e2).tl e3
     split at h
     . rename_i hs3
       have e4:=zat g3.1 (by decide) hs3;obtain ⟨rfl,rfl⟩:=vak (vab h);refine ⟨?_,zpc (zar (by decide) (by decide)) (zar (by omega) (by omega))⟩;refine ep.trans ?_
       rw [e,show (zgx l).tail=wTk n :: l1 from e1,e2,show l1.tail=nTk k :: l2 from e3,e4];simp [tD]
     . cases h
   . cases h
 split at h
 . rename_i hs
   have e:=zat gp.1 (by decide) hs
   split at h
   . cases h
   rename_i n l1 h1
   obtain ⟨e1,n1⟩:=zcz (gp.tl e).1 h1;have g1:=(gp.tl e).tl e1
   split at h
   . rename_i hs3
     have e4:=zat g1.1 (by decide) hs3;obtain ⟨rfl,rfl⟩:=vak (vab h);refine ⟨?_,zpc (zar (by decide) (by decide)) (zar (by decide) (by decide))⟩;refine ep.trans ?_
     rw [e,show (zgx l).tail=wTk n :: l1 from e1,e4];simp [tD]
   . cases h
 split at h
 . rename_i hs
   have e:=zat gp.1 (by decide) hs
   split at h
   . cases h
   rename_i n l1 h1
   obtain ⟨e1,n1⟩:=zcz (gp.tl e).1 h1;have g1:=(gp.tl e).tl e1
   split at h
   . rename_i hs2
     have e2:=zat g1.1 (by decide) hs2
     split at h
     . cases h
     rename_i k l2 h2
     obtain ⟨e3,k0,k1⟩:=zo7 (g1.tl e2).1 h2;have g3:=(g1.tl e2).tl e3
     split at h
     . rename_i hs3
       have e4:=zat g3.1 (by decide) hs3
       split at h
       . rename_i hs4
         have e5:=zat (g3.tl e4).1 (by decide) hs4;obtain ⟨rfl,rfl⟩:=vak (vab h);refine ⟨?_,zpc (zar (by decide) (by decide)) (zar (by omega) (by omega))⟩;refine ep.trans ?_
         rw [e,show (zgx l).tail=wTk n :: l1 from e1,e2,show l1.tail=nTk k :: l2 from e3,e4,show l2.tail=kTk zgl :: l2.tail.tail from e5];simp [tD]
       . cases h
     . cases h
   . cases h
 . cases h
def zkr (ps:List ByteArray):List Tk:=zc5 (ps.map (fun n=>[wTk n]))
theorem zgt:∀ (f:Nat) (acc:List ByteArray) (l l':List Tk) (ps:List ByteArray),zca f acc l=some (ps,l')->zgs l->acc≠[]->zkr acc++l=zkr ps++kTk tRp :: l'/\ps.length<=acc.length+l.length
 | 0,_,_,_,_,h,_,_=>by simp [zca] at h
 | f + 1,acc,l,l',ps,h,hg,hne=>by
   unfold zca at h
   split at h
   . rename_i hs
     have e:=zat hg.1 (by decide) hs;have hl:=zaj (by decide) hs
     split at h
     . cases h
     rename_i n l1 h1
     obtain ⟨e1,_⟩:=zcz (hg.tl e).1 h1;have hlt:=zbc h1;obtain ⟨e2,c2⟩:=zgt f (acc++[n]) l1 l' ps h ((hg.tl e).tl e1) (by simp);refine ⟨?_,by simp at c2;omega⟩;rw [← e2];unfold zkr;rw [vce,show [n].map (fun n=>[wTk n])=[[wTk n]] from rfl,zf5 _ _ (by simpa using hne),e,show l.tail=wTk n :: l1 from e1];simp
   split at h
   . rename_i hs
     obtain ⟨rfl,rfl⟩:=vak (vab h);exact ⟨by rw [← zat hg.1 (by decide) hs],by omega⟩
   . cases h
theorem zpe {l l':List Tk} {ps:List ByteArray} (h:zgb l=some (ps,l')) (hg:zgs l):l=zkr ps++kTk tRp :: l'/\ps.length<=l.length:=by
 unfold zgb at h
 split at h
 . rename_i hs
   obtain ⟨rfl,rfl⟩:=vak (vab h);exact ⟨zat hg.1 (by decide) hs,by simp⟩
 split at h
 . cases h
 rename_i n l1 h1
 obtain ⟨e1,_⟩:=zcz hg.1 h1;have hlt:=zbc h1;obtain ⟨e2,c2⟩:=zgt _ [n] l1 l' ps h (hg.tl e1) (by simp);exact ⟨by rw [e1,← e2];rfl,by simp at c2;omega⟩
def zxi (t:ByteArray) (l:List ByteArray):List Tk:=l.flatMap (fun n=>[kTk t,wTk n,kTk zgl])
theorem zf7 (t:ByteArray) (ht:0<t.size):∀ (f:Nat) (acc:List ByteArray) (l l':List Tk) (ls:List ByteArray),zcb t f acc l=some (ls,l')->zgs l->zxi t acc++l=zxi t ls++l'/\ls.length<=acc.length+l.length
 | 0,_,_,_,_,h,_=>by simp [zcb] at h
 | f + 1,acc,l,l',ls,h,hg=>by
   unfold zcb at h
   split at h
   . rename_i hs
     have e:=zat hg.1 ht hs;have hl:=zaj ht hs
     split at h
     . cases h
     rename_i n l1 h1
     obtain ⟨e1,_⟩:=zcz (hg.tl e).1 h1;have hlt:=zbc h1;have g1:=(hg.tl e).tl e1
     split at h
     . rename_i hs2
       have e2:=zat g1.1 (by decide) hs2;have hl2:=zaj (by decide) hs2;obtain ⟨e3,c3⟩:=zf7 t ht f (acc++[n]) l1.tail l' ls h (g1.tl e2);refine ⟨?_,by simp at c3 hl2 ⊢;omega⟩;rw [← e3,e,show l.tail=wTk n :: l1 from e1]
       conv=>lhs;rw [e2]
       simp [zxi]
     . cases h
   . obtain ⟨rfl,rfl⟩:=vak (vab h)
     exact ⟨rfl,by omega⟩
def tP (p:Pr):List Tk:=z2v p.pub++kTk zzs :: wTk p.name :: kTk tLp :: (zkr p.params++kTk tRp :: (zxi zde p.locals++brT (tSs p.body)))
theorem zgu:∀ (l:List ByteArray),D.fines (zal l)
 | []=>zco
 | x :: r=>by
   show D.fines (.str x :: zal r);simp only [D.fines,D.fine];exact ⟨trivial,zgu r⟩
theorem zzz {nm:ByteArray} {pb:Bool} {ps ls:List ByteArray} {b:List St} (h1:ps.length<=10000) (h2:ls.length<=10000) (h3:b.length<=10000) (h4:D.fines (zbj b)):D.fines (Pr.mk nm pb ps ls b).ds:=by
 simp only [Pr.ds,D.fines,D.fine];refine ⟨trivial,trivial,⟨?_,?_,zgu _⟩,⟨?_,?_,zgu _⟩,⟨?_,?_,h4⟩,trivial⟩
 . simp [zal]
 . simp [zal];omega
 . simp [zal]
 . simp [zal];omega
 . rw [zdi];omega
 . rw [zdi];omega
theorem zpf {l l':List Tk} {p:Pr} (h:zed l=some (p,l')) (hg:zgs l):l=tP p++l'/\D.fines p.ds:=by
 have ep:=zum hg.1;have gp:=hg.of_eq ep;unfold zed at h
 split at h
 . rename_i hs
   have e:=zat gp.1 (by decide) hs
   split at h
   . cases h
   rename_i n l1 h1
   obtain ⟨e1,n1⟩:=zcz (gp.tl e).1 h1;have g1:=(gp.tl e).tl e1
   split at h
   . rename_i hs2
     have e2:=zat g1.1 (by decide) hs2;have g2:=g1.tl e2
     split at h
     . cases h
     rename_i ps l2 h2
     obtain ⟨e3,c3⟩:=zpe h2 g2;have g3':=g2.of_eq e3;have g3:zgs l2:=g3'.tl rfl
     split at h
     . cases h
     rename_i ls l3 h3
     obtain ⟨e4,c4⟩:=zf7 zde (by decide) _ [] _ _ _ h3 g3
     have e4':l2=zxi zde ls++l3:=by simpa [zxi] using e4
     have g4:=g3.of_eq e4'
     split at h
     . cases h
     rename_i b l4 h4
     obtain ⟨e5,f5,c5⟩:=zc6 _ _ _ _ h4 g4;obtain ⟨rfl,rfl⟩:=vak (vab h);have k2:l1.tail.length<=4096:=g2.2;have k3:=g3.2;have k4:=g4.2;refine ⟨?_,zzz (by omega) (by simp at c4;omega) (by omega) f5⟩;refine ep.trans ?_
     rw [e,show (zgx l).tail=wTk n :: l1 from e1,e2,show l1.tail=zkr ps++kTk tRp :: l2 from e3,e4',e5];simp [tP]
   . cases h
 . cases h
theorem zhv:∀ (f:Nat) (acc:List De) (l l':List Tk) (ds:List De),zee f acc l=some (ds,l')->zgs l->D.fines (zie acc)->acc.flatMap tD++l=ds.flatMap tD++l'/\D.fines (zie ds)/\ds.length<=acc.length+l.length
 | 0,_,_,_,_,h,_,_=>by simp [zee] at h
 | f + 1,acc,l,l',ds,h,hg,hf=>by
   unfold zee at h
   split at h
   . split at h
     . cases h
     rename_i d l1 h1
     obtain ⟨e1,f1⟩:=zpd h1 hg;have hlt:=zqv h1;obtain ⟨e2,f2,c2⟩:=zhv f (acc++[d]) l1 l' ds h (hg.of_eq e1) (by rw [show zie (acc++[d])=zie acc++d.ds from by simp [zie]];exact D.fines_append hf f1);refine ⟨?_,f2,by simp at c2;omega⟩
     rw [← e2,e1];simp
   . obtain ⟨rfl,rfl⟩:=vak (vab h)
     exact ⟨rfl,hf,by omega⟩
theorem zhw:∀ (f:Nat) (acc:List Pr) (l l':List Tk) (ps:List Pr),zef f acc l=some (ps,l')->zgs l->D.fines (zg1 acc)->acc.flatMap tP++l=ps.flatMap tP++kTk zoq :: l'/\D.fines (zg1 ps)/\ps.length<=acc.length+l.length
 | 0,_,_,_,_,h,_,_=>by simp [zef] at h
 | f + 1,acc,l,l',ps,h,hg,hf=>by
   unfold zef at h
   split at h
   . rename_i hs
     obtain ⟨rfl,rfl⟩:=vak (vab h);exact ⟨by rw [← zat hg.1 (by decide) hs],hf,by omega⟩
   . split at h
     . cases h
     rename_i p l1 h1
     obtain ⟨e1,f1⟩:=zpf h1 hg;have hlt:=zqx h1;obtain ⟨e2,f2,c2⟩:=zhw f (acc++[p]) l1 l' ps h (hg.of_eq e1) (by rw [show zg1 (acc++[p])=zg1 acc++p.ds from by simp [zg1]];exact D.fines_append hf f1);refine ⟨?_,f2,by simp at c2;omega⟩
     rw [← e2,e1];simp
def tM (m:Mo):List Tk:=kTk zli :: wTk m.name :: kTk tLb :: (zxi zqi m.uses++(m.decls.flatMap tD++(m.procs.flatMap tP++kTk zoq :: (brT (tSs m.main)++[kTk tRb]))))
structure Fine (m:Mo):Prop where
 uses:m.uses.length<=10000
 decls:m.decls.length<=10000
 procs:m.procs.length<=10000
 main:m.main.length<=10000
 fd:D.fines (zie m.decls)
 fp:D.fines (zg1 m.procs)
 fm:D.fines (zbj m.main)
theorem zlw {l l':List Tk} {m:Mo} (h:zbz l=some (m,l')) (hg:zgs l):l=tM m++l'/\Fine m:=by
 unfold zbz at h
 split at h
 . rename_i hs
   have e:=zat hg.1 (by decide) hs
   split at h
   . cases h
   rename_i n l1 h1
   obtain ⟨e1,n1⟩:=zcz (hg.tl e).1 h1;have g1:=(hg.tl e).tl e1
   split at h
   . rename_i hs2
     have e2:=zat g1.1 (by decide) hs2;have g2:=g1.tl e2;have k2:l1.tail.length<=4096:=g2.2
     split at h
     . cases h
     rename_i us l2 h2
     obtain ⟨e3,c3⟩:=zf7 zqi (by decide) _ [] _ _ _ h2 g2
     have e3':l1.tail=zxi zqi us++l2:=by simpa [zxi] using e3
     have g3:=g2.of_eq e3';have k3:=g3.2
     split at h
     . cases h
     rename_i ds l3 h3
     obtain ⟨e4,f4,c4⟩:=zhv _ [] _ _ _ h3 g3 zco
     have e4':l2=ds.flatMap tD++l3:=by simpa using e4
     have g4:=g3.of_eq e4';have k4:=g4.2
     split at h
     . cases h
     rename_i ps l4 h4
     obtain ⟨e5,f5,c5⟩:=zhw _ [] _ _ _ h4 g4 zco
     have e5':l3=ps.flatMap tP++kTk zoq :: l4:=by simpa using e5
     have g5:zgs l4:=(g4.of_eq e5').tl rfl;have k5:=g5.2
     split at h
     . cases h
     rename_i b l5 h5
     obtain ⟨e6,f6,c6⟩:=zc6 _ _ _ _ h5 g5;have g6:=g5.of_eq e6
     split at h
     . rename_i hs3
       have e7:=zat g6.1 (by decide) hs3;obtain ⟨rfl,rfl⟩:=vak (vab h);refine ⟨?_,⟨by show us.length<=10000;simp at c3 k2;omega,by show ds.length<=10000;simp at c4;omega,by show ps.length<=10000;simp at c5;omega,by show b.length<=10000;omega,f4,f5,f6⟩⟩
       rw [e,show l.tail=wTk n :: l1 from e1,e2,e3',e4',e5',e6,e7];simp [tM]
     . cases h
   . cases h
 . cases h
inductive exOk:Ex->Prop
 | mk {op n:Int} {m nm:ByteArray} {args:List Ex} (h1:exB op=true) (h2:zci (exS op) m nm=true) (h3:nOk (exS op) n=true) (h4:za3 (exS op) args.length=true) (h5:∀ a ∈ args,exOk a):exOk (.mk op n m nm args)
theorem z1t:∀ (k:Nat) (l:List Ex),za4 k l=true->zan k l=false->za9 k l=true->∀ x ∈ l,exOk x
 | 0,l,_,h2,_,x,hx=>by
   simp [zan] at h2;rw [h2] at hx;cases hx
 | k+1,l,h1,h2,h3,x,hx=>by
   simp only [za4,vas] at h1;simp only [zan,vay] at h2;simp only [za9,vas] at h3;have a1:=h1 x hx;have a3:=h3 x hx
   have a2:zan k x.args=false:=by
    have:=h2.2;rw [vbv] at this;simpa using this x hx
   simp only [vae] at a1 a3;obtain ⟨op,n,m,nm,args⟩:=x;exact .mk a1.1 a3.1 a3.2.1 a3.2.2.1 (z1t k args a1.2 a2 a3.2.2.2)
theorem zun {α:Type} {l:List α} (h:decide (0<l.length)=false):l=[]:=vam (by have:=of_decide_eq_false h;omega)
inductive stOk:St->Prop
 | mk {op:Int} {m nm:ByteArray} {args:List Ex} {body other:List St} (h1:stB op=true) (h2:zci (stS op) m nm=true) (h3:za3 (stS op) args.length=true) (h4:∀ a ∈ args,exOk a) (h5:(stS op).body=true\/body=[]) (h6:(stS op).other=true\/other=[]) (h7:∀ s ∈ body,stOk s) (h8:∀ s ∈ other,stOk s):stOk (.mk op m nm args body other)
theorem zz0:∀ (k:Nat) (l:List St),zao k l=true->zah k l=false->zap k l=true->∀ s ∈ l,stOk s
 | 0,l,_,h2,_,x,hx=>by simp [zah] at h2
 | k + 1,l,h1,h2,h3,x,hx=>by
   simp only [zao,vas] at h1;simp only [zah,vay] at h2;simp only [zap,vas] at h3;have a1:=h1 x hx;have a3:=h3 x hx;have a2:=h2.2;rw [vbv] at a2;have a2:=a2 x hx;simp only [vae] at a1 a3;simp only [vdf,vay,vdd] at a2;obtain ⟨op,m,nm,args,body,other⟩:=x
   have hb:(stS op).body=true\/body=[]:=by
    have:=a3.2.2.2.1;simp [St.op,St.body] at this;exact this
   have ho:(stS op).other=true\/other=[]:=by
    have:=a3.2.2.2.2.1;simp [St.op,St.other] at this;exact this
   have hbm:body=[]\/zah k body=false:=by
    rcases a2.2.1 with h | h
    . left
      simp [St.op,St.body] at h;exact zun h.2
    . exact Or.inr h
   have hom:other=[]\/zah k other=false:=by
    rcases a2.2.2 with h | h
    . left
      exact zun h
    . exact Or.inr h
   refine .mk a1.1 a3.1 a3.2.1 (z1t 6 args a1.2.1 a2.1 a3.2.2.1) hb ho ?_ ?_
   . rcases hbm with h | h
     . rw [h];intro s hs;cases hs
     . exact zz0 k body a1.2.2.1 h a3.2.2.2.2.2.1
   . rcases hom with h | h
     . rw [h];intro s hs;cases hs
     . exact zz0 k other a1.2.2.2 h a3.2.2.2.2.2.2
structure moOk (m:Mo):Prop where
 name:nameOk m.name=true
 uses:∀ u ∈ m.uses,nameOk u=true
 decls:∀ d ∈ m.decls,nameOk d.name=true/\zdf d=true/\1<=d.kind/\d.kind<=3
 procs:∀ p ∈ m.procs,nameOk p.name=true/\(∀ n ∈ p.params,nameOk n=true)/\(∀ n ∈ p.locals,nameOk n=true)/\(∀ s ∈ p.body,stOk s)
 main:∀ s ∈ m.main,stOk s
theorem zqs {m:Mo} (h:m.err=0):m.kinds=true/\m.many=false/\m.form=true:=by
 unfold Mo.err at h
 cases hk:m.kinds with
 | false=>rw [hk] at h;simp at h
 | true=>
   rw [hk] at h
   cases hm:m.many with
   | true=>rw [hm] at h;simp at h
   | false=>
     rw [hm] at h
     cases hf:m.form with
     | false=>rw [hf] at h;simp at h
     | true=>exact ⟨rfl,rfl,rfl⟩
theorem z3e {m:Mo} (h:m.err=0):moOk m:=by
 obtain ⟨hk,hm,hf⟩:=zqs h;unfold Mo.kinds at hk;unfold Mo.many at hm;unfold Mo.form at hf;simp only [vae,vas,decide_eq_true_eq] at hk hf;simp only [vay] at hm;have hmb:=hm.2.2.2.2;rw [vbv] at hmb
 have body:∀ b ∈ m.bodies,∀ s ∈ b,stOk s:=fun b hb=>zz0 6 b (hk.2 b hb) (by simpa using hmb b hb) (hf.2.2.2.2 b hb)
 exact {
  name:=hf.1
  uses:=hf.2.1
  decls:=fun d hd=>⟨(hf.2.2.1 d hd).1,(hf.2.2.1 d hd).2,hk.1 d hd⟩
  procs:=fun p hp=>⟨(hf.2.2.2.1 p hp).1,(hf.2.2.2.1 p hp).2.1,(hf.2.2.2.1 p hp).2.2,body p.body (by unfold Mo.bodies;simp;exact Or.inl ⟨p,hp,rfl⟩)⟩
  main:=body m.main (by unfold Mo.bodies;simp) }
theorem zch.append {a b:List Tk} (h:zch a) (k:zch b):zch (a++b):=⟨by rw [vbj,h.1,k.1];rfl,by rw [vbj,h.2,k.2];rfl⟩
theorem zch.cons {t:Tk} {b:List Tk} (h:zch [t]) (k:zch b):zch (t :: b):=zch.append (a:=[t]) h k
theorem zch.nil:zch []:=⟨rfl,rfl⟩
end Go.Proofs.YtndkhgakfodldaaGreatDoor
