import Derived.Test.YtndkhgakfodldaaGreatDoorStep
import Derived.Test.YtndkhgakfodldaaGreatDoorPj
namespace Go.Proofs.YtndkhgakfodldaaGreatDoor
set_option maxRecDepth 100000
set_option maxHeartbeats 400000
open Go.RowKit
theorem zzs (s:ByteArray) (w:World) (hs:s.size<=maxLen) :
 Calls Tryz.prog 114 #[.string s] w fun e w'=>∃ a cap,e = .returned (.tuple #[.slice a (lexT s).length cap,.int .i64 (lexE s)])/\zdb w' a (lexT s)/\Below w.heap.size w w':=by
 unfold maxLen at hs
 by_cases hlong:4096<s.size
 . have HE:Hid (lexT s=[]/\lexE s=2):=zxb hlong
   go_enter Tryz.func114,Tryz.ntmps114;go_wp2_with fail;go_ret2;exact ⟨none,0,by rw [HE.out.1,HE.out.2];rfl,by rw [HE.out.1];exact Or.inl rfl,Below.refl _ _⟩
 . have HC:Hid (Calls Tryz.prog 157 #[.string s] w fun e w'=>∃ a cap,e = .returned (.tuple #[.slice a (lexT s).length cap,.int .i64 (lexE s)])/\zdb w' a (lexT s)/\Below w.heap.size w w'):=zs3 s w (by omega)
   generalize lexT s=ts at *;generalize lexE s=n at *;go_enter Tryz.func114,Tryz.ntmps114;go_wp2_with fail;refine HC.out.mono ?_;rintro e w2 ⟨a,cap,rfl,hT,hb⟩;have HT:Hid (zdb w2 a ts):=hT;clear hT HC;go_wp2_with fail;go_ret2;exact ⟨a,cap,rfl,HT.out,hb⟩
def z05:Nat->ByteArray->Nat->Option (List Tk)
 | 0,s,a=>if a<s.size then none else some []
 | f + 1,s,a=>
   if h:a<s.size then
    if zef s[a] then z05 f s (a+Lx.pieceN s a)
    else match zda (s.extract a (a+Lx.pieceN s a)) with
     | none=>none
     | some t=>(z05 f s (a+Lx.pieceN s a)).map (t :: ·)
   else some []
theorem zut:∀ (f:Nat) (s:ByteArray) (a:Nat),s.size - a<=f->z05 f s a=zdi s a
 | 0,s,a,h=>by rw [zjj s a (by omega)];unfold z05;rw [if_neg (by omega)]
 | f+1,s,a,h=>by
   have hp:=Lx.zfv s a;have ih:=zut f s (a+Lx.pieceN s a) (by omega);rw [zdi,z05,ih]
   cases zda (s.extract a (a+Lx.pieceN s a))<;>rfl
def zg4 (l:L8):Nat:=if Lx.z0t l=0 then 1 else Lx.z0t l
theorem zlf (l:L8):0<zg4 l:=by unfold zg4;split<;>omega
def ztq:L8->Option (List Tk)
 | []=>some []
 | c :: l=>
   if zef c then ztq ((c :: l).drop (zg4 (c :: l)))
   else match zda (strOf ((c :: l).take (zg4 (c :: l)))) with
    | none=>none
    | some t=>(ztq ((c :: l).drop (zg4 (c :: l)))).map (t :: ·)
termination_by l=>l.length
decreasing_by
 all_goals have:=zlf (c :: l);simp only [vbp,vax];omega
theorem zpe (s:ByteArray) (a n:Nat):s.extract a (a+n)=strOf ((s.data.toList.drop a).take n):=by
 rw [← zsf,zse]
theorem zsh:∀ (n:Nat) (s:ByteArray) (a:Nat),s.size - a=n->zdi s a=ztq (s.data.toList.drop a):=by
 intro n
 induction n using Nat.strongRecOn with
 | _ n ih=>
   intro s a hn
   by_cases h:a<s.size
   . have hd:=zuq s a h
     have hp:Lx.pieceN s a=zg4 (s.data.toList.drop a):=rfl;have hpos:=Lx.zfv s a;have ih':=ih (s.size - (a+Lx.pieceN s a)) (by omega) s (a+Lx.pieceN s a) rfl
     have hdd:s.data.toList.drop (a+Lx.pieceN s a)=(s.data.toList.drop a).drop (Lx.pieceN s a):=by rw [List.drop_drop]
     cases hb:zef s[a] with
     | true=>
       rw [zjk s a h hb,ih',hdd,hp,hd,ztq,if_pos hb]
     | false=>
       have he:=zpe s a (Lx.pieceN s a)
       cases ht:zda (s.extract a (a+Lx.pieceN s a)) with
       | none=>
         rw [zld s a h hb ht];rw [he,hp,hd] at ht;rw [hd,ztq,if_neg (by simp [hb]),ht]
       | some t=>
         rw [zle s a t h hb ht,ih',hdd];rw [he,hp,hd] at ht;rw [hp,hd,ztq,if_neg (by simp [hb]),ht]
   . rw [zjj s a h,vcp (by rw [Lx.za1];omega),ztq]
theorem zsi (s:ByteArray):zdi s 0=ztq s.data.toList:=by
 have:=zsh _ s 0 rfl;rwa [List.drop_zero] at this
theorem zpf {s:ByteArray} {t:Tk} (h:zda s=some t):zd3 t=true/\Tk.okB t=true:=by
 unfold zda at h
 split at h
 . rename_i hs
   cases h;exact ⟨rfl,by unfold Tk.okB;simp [hs]⟩
 . split at h
   . rename_i hn
     cases h;exact ⟨rfl,by unfold Tk.okB;simp [hn]⟩
   . split at h
     . rename_i hk
       cases h;refine ⟨rfl,?_⟩
       have hv:Lx.zgw s.data.toList<=1099511627775:=by unfold Lx.zf4 at hk;simp at hk;exact hk.2
       unfold Tk.okB;rw [vas];simp;omega
     . cases h
theorem zsj:∀ (n:Nat) (l:L8) (ts:List Tk),l.length=n->ztq l=some ts->zc6 ts/\ts.length<=l.length:=by
 intro n
 induction n using Nat.strongRecOn with
 | _ n ih=>
   intro l ts hn h
   cases l with
   | nil=>rw [ztq] at h;cases h;exact ⟨⟨rfl,rfl⟩,vaa _⟩
   | cons c r=>
     have hpos:=zlf (c :: r)
     have hlen:((c :: r).drop (zg4 (c :: r))).length<n:=by rw [vbp];simp at hn ⊢;omega
     rw [ztq] at h
     split at h
     . obtain ⟨h1,h2⟩:=ih _ hlen _ ts rfl h
       exact ⟨h1,by omega⟩
     . cases ht:zda (strOf ((c :: r).take (zg4 (c :: r)))) with
       | none=>rw [ht] at h;cases h
       | some t=>
         rw [ht] at h
         cases hr:ztq ((c :: r).drop (zg4 (c :: r))) with
         | none=>rw [hr] at h;cases h
         | some us=>
           rw [hr] at h;cases h;obtain ⟨h1,h2⟩:=ih _ hlen _ us rfl hr;obtain ⟨hk,ho⟩:=zpf ht;refine ⟨⟨?_,?_⟩,?_⟩
           . rw [vbs,hk,h1.1];rfl
           . rw [vbs,ho,h1.2];rfl
           . simp only [vax] at *;omega
def kTk (t:ByteArray):Tk:=⟨if Lx.zcq t.data.toList then 1 else 3,0,t⟩
def wTk (t:ByteArray):Tk:=⟨1,0,t⟩
def nTk (n:Int):Tk:=⟨2,n,⟨#[]⟩⟩
theorem zuu {l:L8} (h:Lx.ziq l=true):Lx.zcq l=false:=by
 match l,h with
 | [c],h=>
   have h':Lx.signs.contains c=true:=h
   have key:∀ c ∈ Lx.signs,Lx.zcq [c]=false:=by decide
   exact key c (vch.1 h')
theorem zc6.of_app {a b:List Tk} (h:zc6 (a++b)):zc6 b:=by
 obtain ⟨h1,h2⟩:=h;rw [vaw,van] at h1 h2;exact ⟨h1.2,h2.2⟩
theorem zc6.head {t:Tk} {b:List Tk} (h:zc6 (t :: b)):zd3 t=true/\Tk.okB t=true:=by
 obtain ⟨h1,h2⟩:=h;rw [vbs,van] at h1 h2;exact ⟨h1.1,h2.1⟩
theorem zc6.of_eq {a b c:List Tk} (h:zc6 a) (e:a=b++c):zc6 c:=by rw [e] at h;exact h.of_app
theorem zlg {s t:ByteArray} (h:s.toList=t.toList):s=t:=by
 rw [vas,vas] at h;exact ByteArray.ext (Array.ext' h)
theorem za0 {l:List Tk} {t:ByteArray} (hr:zc6 l) (ht:0<t.size) (h:skB l t=true):l=kTk t :: l.tail:=by
 cases l with
 | nil=>exact absurd rfl (ztx ht h)
 | cons x r=>
   obtain ⟨hk,ho⟩:=hr.head;obtain ⟨k,n,s⟩:=x;have hs:s=t:=zlg (beq_iff_eq.1 h);subst hs;show Tk.mk k n s :: r=kTk s :: r
   have hne:s.toList.isEmpty=false:=by
    cases he:s.toList.isEmpty with
    | false=>rfl
    | true=>
      rw [vas] at he;have h1:=Lx.za1 s;rw [List.isEmpty_iff.1 he] at h1;simp at h1;omega
   unfold zd3 at hk;simp only [van,decide_eq_true_eq] at hk;unfold Tk.okB at ho
   have h123:k=1\/k=2\/k=3:=by omega
   rcases h123 with rfl | rfl | rfl
   . simp at ho
     unfold kTk
     rw [ho.1,ho.2];rfl
   . simp [hne] at ho
   . simp at ho
     unfold kTk
     rw [ho.1,zuu ho.2];rfl
theorem zxc (s:ByteArray):zma s=zj5 s:=by
 unfold zma zj5;rw [vas];show zzi.any _=kept.contains _;rw [vbt,List.any_eq_true,vch]
 constructor
 . rintro ⟨x,hx,h⟩
   rw [beq_iff_eq.1 h];exact hx
 . intro h
   exact ⟨_,h,beq_self_eq_true _⟩
theorem zdo {l l':List Tk} {a:ByteArray} (hr:zc6 l) (h:zdh l=some (a,l')):l=wTk a :: l'/\nameOk a=true:=by
 unfold zdh at h
 split at h
 . rename_i hk
   obtain ⟨rfl,rfl⟩:=vak (vac h);simp only [van,beq_iff_eq,vdp] at hk
   cases l with
   | nil=>exact absurd hk.1 (by decide)
   | cons x r=>
     obtain ⟨_,ho⟩:=hr.head;obtain ⟨k,n,s⟩:=x;have e1:k=1:=hk.1;have e2:zma s=false:=hk.2;subst e1;unfold Tk.okB at ho;simp at ho;have e3:n=0:=ho.1;subst e3;refine ⟨rfl,?_⟩;show nameOk s=true;unfold nameOk
     rw [← zxc,e2,ho.2];rfl
 . cases h
theorem zpg {l l':List Tk} {a:Int} (hr:zc6 l) (h:zkm l=some (a,l')):l=nTk a :: l'/\0<=a/\a<=1099511627775:=by
 unfold zkm at h
 split at h
 . rename_i hk
   obtain ⟨rfl,rfl⟩:=vak (vac h)
   cases l with
   | nil=>exact absurd hk (by decide)
   | cons x r=>
     obtain ⟨_,ho⟩:=hr.head;obtain ⟨k,n,s⟩:=x;have e1:k=2:=hk;subst e1;unfold Tk.okB at ho;simp at ho
     have e2:s=⟨#[]⟩:=by
      apply zlg
      rw [ho.1,vas]
     subst e2;exact ⟨rfl,ho.2⟩
 . cases h
def zyy (m n:ByteArray):List Tk:=if m.size=0 then [wTk n] else [wTk m,kTk zzh,wTk n]
theorem zxd {s:ByteArray} (h:nameOk s=true):0<s.size:=by
 rcases vdm s.size with h0 | h0
 . exfalso
   have:s.data.toList=[]:=vaj (by rw [Lx.za1];exact h0);unfold nameOk at h;rw [this] at h;simp [Lx.zcq,Lx.zmt] at h
 . exact h0
theorem zuv {l l':List Tk} {m n:ByteArray} (hr:zc6 l) (h:ztn l=some ((m,n),l')):l=zyy m n++l'/\nameOk n=true/\(m.size=0\/nameOk m=true):=by
 unfold ztn at h
 split at h
 . cases h
 rename_i a l1 h1
 obtain ⟨e1,n1⟩:=zdo hr h1;have r1:zc6 l1:=hr.of_eq (b:=[wTk a]) e1
 split at h
 . rename_i hs
   have e2:=za0 r1 (by decide) hs
   split at h
   . cases h
   rename_i b l2 h2
   obtain ⟨e3,n3⟩:=zdo (r1.of_eq (b:=[kTk zzh]) e2) h2;obtain ⟨h3,rfl⟩:=vak (vac h);obtain ⟨rfl,rfl⟩:=vak h3;refine ⟨?_,n3,Or.inr n1⟩;unfold zyy
   rw [if_neg (by have:=zxd n1;omega),e1,e2,show l1.tail=wTk b :: l2 from e3];rfl
 . obtain ⟨h3,rfl⟩:=vak (vac h)
   obtain ⟨rfl,rfl⟩:=vak h3;exact ⟨e1,n1,Or.inl rfl⟩
def z12 (op:Int):Tk:=kTk (opTexts.getD (op - 7).toNat ⟨#[]⟩)
def zds:List (List Tk)->List Tk
 | []=>[]
 | [x]=>x
 | x :: y :: r=>x++kTk zw1 :: zds (y :: r)
def exTok (op n:Int) (m nm:ByteArray) (xs:List (List Tk)):List Tk:=
 if op=1 then [nTk n] else if op=2 then [kTk tIn] else if op=3 then zyy m nm
 else if op=4 then zyy m nm++kTk tLs :: (xs.getD 0 []++[kTk tRs])
 else if op=5 then zyy m nm++kTk tLp :: (zds xs++[kTk tRp])
 else if op=6 then kTk z0x :: xs.getD 0 []
 else kTk tLp :: (xs.getD 0 []++z12 op :: (xs.getD 1 []++[kTk tRp]))
mutual
def tE:Ex->List Tk
 | .mk op n m nm args=>exTok op n m nm (tEs args)
def tEs:List Ex->List (List Tk)
 | []=>[]
 | x :: r=>tE x :: tEs r
end
theorem zlh:∀ (a b:List Ex),tEs (a++b)=tEs a++tEs b
 | [],b=>by simp [tEs]
 | x :: r,b=>by simp [tEs,zlh r b]
theorem zuw:∀ (a:List Ex),(tEs a).length=a.length
 | []=>by simp [tEs]
 | x :: r=>by simp [tEs,zuw r]
theorem zge:∀ (a:List (List Tk)) (x:List Tk),a≠[]->zds (a++[x])=zds a++kTk zw1 :: x
 | [],_,h=>absurd rfl h
 | [y],x,_=>by simp [zds]
 | y :: z :: r,x,_=>by
   have:=zge (z :: r) x (by simp);show y++kTk zw1 :: zds ((z :: r)++[x])=(y++kTk zw1 :: zds (z :: r))++kTk zw1 :: x
   rw [this];simp
theorem zax {n:Int} (h0 : -9223372036854775808<=n) (h1:n<=9223372036854775807):(Lit.int .i64 n).wf=true:=by
 have e1:IntKind.i64.min = -9223372036854775808:=by decide
 have e2:IntKind.i64.max=9223372036854775807:=by decide
 simp [Lit.wf,e1,e2];omega
theorem zg5:∀ (l:List Ex),(za9 l).length=5*l.length
 | []=>by simp [za9]
 | x :: r=>by
   have:=x.ds_len
   simp [za9,zg5 r,this];omega
theorem zd4:∀ (l:List St),(za2 l).length=6*l.length
 | []=>by simp [za2]
 | x :: r=>by
   have:=x.ds_len
   simp [za2,zd4 r,this];omega
theorem zgf {op n:Int} {m nm:ByteArray} {args:List Ex} (h1:(Lit.int .i64 op).wf=true) (h2:(Lit.int .i64 n).wf=true) (h3:args.length<=10000) (h4:D.fines (za9 args)):D.fines (Ex.mk op n m nm args).ds:=by
 unfold Ex.ds;simp only [D.fines,D.fine];refine ⟨h1,h2,trivial,trivial,⟨?_,?_,h4⟩,trivial⟩
 . rw [zg5];omega
 . rw [zg5];omega
theorem zdc:D.fines []:=by unfold D.fines;trivial
theorem zdp {x:Ex} (h:D.fines x.ds):D.fines (za9 [x]):=by rw [zi3];exact h
theorem zqy {x y:Ex} (h:D.fines x.ds) (k:D.fines y.ds):D.fines (za9 [x,y]):=by
 show D.fines (x.ds++(y.ds++[]));exact D.fines_append h (D.fines_append k zdc)
theorem zxe {l:List Tk} {k:Nat} (hr:zc6 l) (h:ztw l=some k):l=z12 (7+k) :: l.tail/\k<9:=by
 unfold ztw at h;obtain ⟨hk,h2,_⟩:=vbd.1 h
 have hp:0<(opTexts[k]).size:=by
  have:∀ x ∈ opTexts,0<x.size:=by decide
  exact this _ (vah hk)
 refine ⟨?_,hk⟩;have e:=za0 hr hp h2;unfold z12;rw [show ((7:Int)+(k:Int) - 7).toNat=k from by omega,vcd,vba hk];exact e
def zg6 (l:List Tk):Prop:=zc6 l/\l.length<=4096
theorem zg6.of_eq {a b c:List Tk} (h:zg6 a) (e:a=b++c):zg6 c:=⟨h.1.of_eq e,by have:=h.2;rw [e,vao] at this;omega⟩
theorem zg6.tl {a c:List Tk} {t:Tk} (h:zg6 a) (e:a=t :: c):zg6 c:=h.of_eq (b:=[t]) e
mutual
theorem zcv:∀ (f:Nat) (l l':List Tk) (x:Ex),zbu f l=some (x,l')->zg6 l->l=tE x++l'/\D.fines x.ds
 | 0,_,_,_,h,_=>by simp [zbu] at h
 | f + 1,l,l',x,h,hg=>by
   unfold zbu at h
   split at h
   . rename_i hk
     obtain ⟨rfl,rfl⟩:=vak (vac h)
     have hn:zkm l=some ((hd l).n,l.tail):=by unfold zkm;rw [if_pos hk]
     obtain ⟨e,h0,h1⟩:=zpg hg.1 hn;exact ⟨by simpa [tE,exTok] using e,zgf (zax (by decide) (by decide)) (zax (by omega) (by omega)) (by simp) (by unfold za9;exact zdc)⟩
   split at h
   . rename_i hs
     obtain ⟨rfl,rfl⟩:=vak (vac h);exact ⟨by simpa [tE,exTok] using za0 hg.1 (by decide) hs,zgf (zax (by decide) (by decide)) (zax (by decide) (by decide)) (by simp) (by unfold za9;exact zdc)⟩
   split at h
   . rename_i hs
     have e:=za0 hg.1 (by decide) hs
     split at h
     . cases h
     rename_i y l1 h1
     obtain ⟨rfl,rfl⟩:=vak (vac h);obtain ⟨e1,f1⟩:=zcv f _ _ _ h1 (hg.tl e);refine ⟨?_,zgf (zax (by decide) (by decide)) (zax (by decide) (by decide)) (by simp) (zdp f1)⟩
     rw [e,show l.tail=tE y++l1 from e1];simp [tE,tEs,exTok]
   split at h
   . rename_i hs
     have e:=za0 hg.1 (by decide) hs;obtain ⟨e1,f1⟩:=zph f _ _ _ h (hg.tl e);exact ⟨e.trans e1,f1⟩
   split at h
   . cases h
   rename_i m nm l1 h1
   obtain ⟨e1,n1,n2⟩:=zuv hg.1 h1;have g1:=hg.of_eq e1
   split at h
   . rename_i hs
     have e2:=za0 g1.1 (by decide) hs
     split at h
     . cases h
     rename_i y l2 h2
     obtain ⟨e3,f3⟩:=zcv f _ _ _ h2 (g1.tl e2)
     split at h
     . rename_i hs2
       have e4:=za0 ((g1.tl e2).of_eq e3).1 (by decide) hs2;obtain ⟨rfl,rfl⟩:=vak (vac h);refine ⟨?_,zgf (zax (by decide) (by decide)) (zax (by decide) (by decide)) (by simp) (zdp f3)⟩
       rw [e1,e2,show l1.tail=tE y++l2 from e3,e4];simp [tE,tEs,exTok]
     . cases h
   split at h
   . rename_i hs
     have e2:=za0 g1.1 (by decide) hs
     split at h
     . cases h
     rename_i ys l2 h2
     obtain ⟨e3,f3,c3⟩:=zjm f _ _ _ h2 (g1.tl e2);obtain ⟨rfl,rfl⟩:=vak (vac h);have hl3:l1.tail.length<=4096:=(g1.tl e2).2;refine ⟨?_,zgf (zax (by decide) (by decide)) (zax (by decide) (by decide)) (by omega) f3⟩
     rw [e1,e2,show l1.tail=zds (tEs ys)++kTk tRp :: l2 from e3];simp [tE,exTok]
   . obtain ⟨rfl,rfl⟩:=vak (vac h)
     refine ⟨?_,zgf (zax (by decide) (by decide)) (zax (by decide) (by decide)) (by simp) (by unfold za9;exact zdc)⟩
     rw [e1];simp [tE,exTok]
theorem zph:∀ (f:Nat) (l l':List Tk) (x:Ex),zfg f l=some (x,l')->zg6 l->kTk tLp :: l=tE x++l'/\D.fines x.ds
 | 0,_,_,_,h,_=>by simp [zfg] at h
 | f + 1,l,l',x,h,hg=>by
   unfold zfg at h
   split at h
   . cases h
   rename_i a l1 h1
   obtain ⟨e1,f1⟩:=zcv f _ _ _ h1 hg;have g1:=hg.of_eq e1
   split at h
   . cases h
   rename_i k hk
   obtain ⟨e2,k9⟩:=zxe g1.1 hk
   split at h
   . cases h
   rename_i b l2 h2
   obtain ⟨e3,f3⟩:=zcv f _ _ _ h2 (g1.tl e2)
   split at h
   . rename_i hs
     have e4:=za0 ((g1.tl e2).of_eq e3).1 (by decide) hs;obtain ⟨rfl,rfl⟩:=vak (vac h);refine ⟨?_,zgf (zax (by omega) (by omega)) (zax (by decide) (by decide)) (by simp) (zqy f1 f3)⟩
     have hop:∀ xs,exTok (7+(k:Int)) 0 ⟨#[]⟩ ⟨#[]⟩ xs=kTk tLp :: (xs.getD 0 []++z12 (7+k) :: (xs.getD 1 []++[kTk tRp])):=by
      intro xs;unfold exTok;rw [if_neg (by omega),if_neg (by omega),if_neg (by omega),if_neg (by omega),if_neg (by omega),if_neg (by omega)]
     rw [e1,e2,show l1.tail=tE b++l2 from e3,e4];simp only [tE,hop,tEs];simp
   . cases h
theorem zjm:∀ (f:Nat) (l l':List Tk) (xs:List Ex),zeb f l=some (xs,l')->zg6 l->l=zds (tEs xs)++kTk tRp :: l'/\D.fines (za9 xs)/\xs.length<=l.length
 | 0,_,_,_,h,_=>by simp [zeb] at h
 | f + 1,l,l',xs,h,hg=>by
   unfold zeb at h
   split at h
   . rename_i hs
     obtain ⟨rfl,rfl⟩:=vak (vac h);exact ⟨by simpa [tEs,zds] using za0 hg.1 (by decide) hs,by unfold za9;exact zdc,by simp⟩
   split at h
   . cases h
   rename_i x l1 h1
   obtain ⟨e1,f1⟩:=zcv f _ _ _ h1 hg;have hlt:=zcr f _ _ _ h1;obtain ⟨e2,f2,c2⟩:=zjn f [x] l1 l' xs h (hg.of_eq e1) (by simp) (by have:=hg.2;simp;omega) (zdp f1);refine ⟨?_,f2,by simp at c2;omega⟩
   rw [e1,← e2];simp [tEs,zds]
theorem zjn:∀ (f:Nat) (acc:List Ex) (l l':List Tk) (xs:List Ex),zf3 f acc l=some (xs,l')->zg6 l->acc≠[]->acc.length+l.length<=10000->D.fines (za9 acc)->zds (tEs acc)++l=zds (tEs xs)++kTk tRp :: l'/\D.fines (za9 xs)/\xs.length<=acc.length+l.length
 | 0,_,_,_,_,h,_,_,_,_=>by simp [zf3] at h
 | f + 1,acc,l,l',xs,h,hg,hne,hc,hf=>by
   unfold zf3 at h
   split at h
   . rename_i hs
     have e:=za0 hg.1 (by decide) hs;have hl:=zam (by decide) hs
     split at h
     . cases h
     rename_i x l1 h1
     obtain ⟨e1,f1⟩:=zcv f _ _ _ h1 (hg.tl e);have hlt:=zcr f _ _ _ h1;obtain ⟨e2,f2,c2⟩:=zjn f (acc++[x]) l1 l' xs h ((hg.tl e).of_eq e1) (by simp) (by simp;omega) (by rw [zgp];exact D.fines_append hf (zdp f1));refine ⟨?_,f2,by simp at c2;omega⟩;rw [← e2,zlh,show tEs [x]=[tE x] from by simp [tEs],zge _ _ (by intro h0;apply hne;have:=zuw acc;rw [h0] at this;exact vaj this.symm),e,show l.tail=tE x++l1 from e1];simp
   split at h
   . rename_i hs
     obtain ⟨rfl,rfl⟩:=vak (vac h);exact ⟨by rw [← za0 hg.1 (by decide) hs],hf,by omega⟩
   . cases h
end
def zpi (op:Int) (m nm:ByteArray) (xs:List (List Tk)):List Tk:=
 if op=1 then zyy m nm++kTk tEq :: xs.getD 0 []
 else if op=2 then zyy m nm++kTk tLs :: (xs.getD 0 []++kTk tRs :: kTk tEq :: xs.getD 1 [])
 else if op=3 then zyy m nm++kTk tLp :: (zds xs++[kTk tRp])
 else if op=6 then kTk ze1 :: xs.getD 0 [] else kTk zyv :: xs.getD 0 []
def brT (x:List Tk):List Tk:=kTk tLb :: (x++[kTk tRb])
def zux (op:Int) (m nm:ByteArray) (xs:List (List Tk)) (b o:List Tk) (k:Nat):List Tk:=
 if op=4 then kTk tIf :: (xs.getD 0 []++(brT b++(if k=0 then [] else kTk zo3 :: brT o)))
 else if op=5 then kTk zga :: (xs.getD 0 []++brT b)
 else zpi op m nm xs++[kTk zgy]
mutual
def tS:St->List Tk
 | .mk op m nm args body other=>zux op m nm (tEs args) (tSs body) (tSs other) other.length
def tSs:List St->List Tk
 | []=>[]
 | s :: r=>tS s++tSs r
end
theorem zli:∀ (a b:List St),tSs (a++b)=tSs a++tSs b
 | [],b=>by simp [tSs]
 | x :: r,b=>by simp [tSs,zli r b]
theorem zzt (s:St):tSs [s]=tS s:=by simp [tSs]
theorem zfi {op:Int} {m nm:ByteArray} {args:List Ex} {body other:List St} (h1:(Lit.int .i64 op).wf=true) (h3:args.length<=10000) (h4:D.fines (za9 args)) (h5:body.length<=10000) (h6:D.fines (za2 body)) (h7:other.length<=10000) (h8:D.fines (za2 other)):D.fines (St.mk op m nm args body other).ds:=by
 unfold St.ds;simp only [D.fines,D.fine];refine ⟨h1,trivial,trivial,⟨?_,?_,h4⟩,⟨?_,?_,h6⟩,⟨?_,?_,h8⟩,trivial⟩
 . rw [zg5];omega
 . rw [zg5];omega
 . rw [zd4];omega
 . rw [zd4];omega
 . rw [zd4];omega
 . rw [zd4];omega
theorem zdk:D.fines (za2 []):=by unfold za2;exact zdc
theorem ze2 {l l':List Tk} {x:Ex} (h:pX l=some (x,l')) (hg:zg6 l):l=tE x++l'/\D.fines x.ds:=zcv _ _ _ _ h hg
theorem zuy {l l':List Tk} {xs:List Ex} (h:pAs l=some (xs,l')) (hg:zg6 l):l=zds (tEs xs)++kTk tRp :: l'/\D.fines (za9 xs)/\xs.length<=l.length:=zjm _ _ _ _ h hg
def zyz:St->List Tk
 | .mk op m nm args _ _=>zpi op m nm (tEs args)
theorem zn1 {l l':List Tk} {s:St} (h:zbx l=some (s,l')) (hg:zg6 l):l++[]=zyz s++l'/\D.fines s.ds/\s.op≠4/\s.op≠5:=by
 unfold zbx at h
 split at h
 . cases h
 rename_i m nm l1 h1
 obtain ⟨e1,n1,n2⟩:=zuv hg.1 h1;have g1:=hg.of_eq e1
 split at h
 . rename_i hs
   have e2:=za0 g1.1 (by decide) hs
   split at h
   . cases h
   rename_i x l2 h2
   obtain ⟨e3,f3⟩:=ze2 h2 (g1.tl e2);obtain ⟨rfl,rfl⟩:=vak (vac h);refine ⟨?_,zfi (zax (by decide) (by decide)) (by simp) (zdp f3) (by simp) zdk (by simp) zdk,by simp [St.op],by simp [St.op]⟩
   rw [vbw,e1,e2,show l1.tail=tE x++l2 from e3];simp [zyz,tEs,zpi]
 split at h
 . rename_i hs
   have e2:=za0 g1.1 (by decide) hs
   split at h
   . cases h
   rename_i x l2 h2
   obtain ⟨e3,f3⟩:=ze2 h2 (g1.tl e2);have g3:=(g1.tl e2).of_eq e3
   split at h
   . rename_i hs2
     have e4:=za0 g3.1 (by decide) hs2
     split at h
     . rename_i hs3
       have e5:=za0 (g3.tl e4).1 (by decide) hs3
       split at h
       . cases h
       rename_i y l3 h3
       obtain ⟨e6,f6⟩:=ze2 h3 ((g3.tl e4).tl e5);obtain ⟨rfl,rfl⟩:=vak (vac h);refine ⟨?_,zfi (zax (by decide) (by decide)) (by simp) (zqy f3 f6) (by simp) zdk (by simp) zdk,by simp [St.op],by simp [St.op]⟩
       rw [vbw,e1,e2,show l1.tail=tE x++l2 from e3,e4,show l2.tail=kTk tEq :: l2.tail.tail from e5,show l2.tail.tail=tE y++l3 from e6];simp [zyz,tEs,zpi]
     . cases h
   . cases h
 split at h
 . rename_i hs
   have e2:=za0 g1.1 (by decide) hs
   split at h
   . cases h
   rename_i xs l2 h2
   obtain ⟨e3,f3,c3⟩:=zuy h2 (g1.tl e2);have hl3:l1.tail.length<=4096:=(g1.tl e2).2;obtain ⟨rfl,rfl⟩:=vak (vac h);refine ⟨?_,zfi (zax (by decide) (by decide)) (by omega) f3 (by simp) zdk (by simp) zdk,by simp [St.op],by simp [St.op]⟩
   rw [vbw,e1,e2,show l1.tail=zds (tEs xs)++kTk tRp :: l2 from e3];simp [zyz,zpi]
 . cases h
theorem zmk {l l1 l2:List Tk} {s s':St} {r:Option (St × List Tk)} (h:zdq r=some (s,l2)) (hr:r=some (s',l1)) (hg:zg6 l) (e:l=zyz s'++l1) (h4:s'.op≠4) (h5:s'.op≠5):s=s'/\l=tS s'++l2:=by
 subst hr;unfold zdq at h;simp only at h
 split at h
 . rename_i hs
   have e1:=za0 (hg.of_eq e).1 (by decide) hs;obtain ⟨rfl,rfl⟩:=vak (vac h);refine ⟨rfl,?_⟩;obtain ⟨op,m,nm,args,body,other⟩:=s';have h4':¬ op=4:=h4;have h5':¬ op=5:=h5;rw [e,e1];simp [zyz,tS,zux,h4',h5']
 . cases h
theorem zpj {r:Option (St × List Tk)} {s:St} {l:List Tk} (h:zdq r=some (s,l)):∃ s' l1,r=some (s',l1):=by
 cases r with
 | none=>cases h
 | some p=>exact ⟨p.1,p.2,rfl⟩
mutual
theorem zpk:∀ (f:Nat) (l l':List Tk) (s:St),zco f l=some (s,l')->zg6 l->l=tS s++l'/\D.fines s.ds
 | 0,_,_,_,h,_=>by simp [zco] at h
 | f + 1,l,l',s,h,hg=>by
   unfold zco at h
   split at h
   . rename_i hs
     have e:=za0 hg.1 (by decide) hs
     split at h
     . cases h
     rename_i x l1 h1
     obtain ⟨e1,f1⟩:=ze2 h1 (hg.tl e);have g1:=(hg.tl e).of_eq e1
     split at h
     . cases h
     rename_i b l2 h2
     obtain ⟨e2,f2,c2⟩:=zdt f _ _ _ h2 g1;have g2:=g1.of_eq e2;have k1:=g1.2
     split at h
     . rename_i hs2
       have e3:=za0 g2.1 (by decide) hs2
       split at h
       . cases h
       rename_i o l3 h3
       obtain ⟨e4,f4,c4⟩:=zdt f _ _ _ h3 (g2.tl e3);have k2:l2.tail.length<=4096:=(g2.tl e3).2
       split at h
       . cases h
       rename_i ho
       obtain ⟨rfl,rfl⟩:=vak (vac h);refine ⟨?_,zfi (zax (by decide) (by decide)) (by simp) (zdp f1) (by omega) f2 (by omega) f4⟩
       have ho':¬ o=[]:=fun h0=>ho (by rw [h0];rfl)
       rw [e,show l.tail=tE x++l1 from e1,e2,e3,show l2.tail=brT (tSs o)++l3 from e4];simp [tS,tEs,zux,ho']
     . obtain ⟨rfl,rfl⟩:=vak (vac h)
       refine ⟨?_,zfi (zax (by decide) (by decide)) (by simp) (zdp f1) (by omega) f2 (by simp) zdk⟩
       rw [e,show l.tail=tE x++l1 from e1,e2];simp [tS,tEs,zux]
   split at h
   . rename_i hs
     have e:=za0 hg.1 (by decide) hs
     split at h
     . cases h
     rename_i x l1 h1
     obtain ⟨e1,f1⟩:=ze2 h1 (hg.tl e);have g1:=(hg.tl e).of_eq e1
     split at h
     . cases h
     rename_i b l2 h2
     obtain ⟨e2,f2,c2⟩:=zdt f _ _ _ h2 g1;have k1:=g1.2;obtain ⟨rfl,rfl⟩:=vak (vac h);refine ⟨?_,zfi (zax (by decide) (by decide)) (by simp) (zdp f1) (by omega) f2 (by simp) zdk⟩
     rw [e,show l.tail=tE x++l1 from e1,e2];simp [tS,tEs,zux]
   split at h
   . rename_i hs
     have e:=za0 hg.1 (by decide) hs
     cases h1:pX l.tail with
     | none=>rw [h1] at h;cases h
     | some p=>
       obtain ⟨x,l1⟩:=p;rw [h1] at h;obtain ⟨e1,f1⟩:=ze2 h1 (hg.tl e);obtain ⟨rfl,e2⟩:=zmk h rfl hg (by rw [e,e1];simp [zyz,zpi,tEs]) (by simp [St.op]) (by simp [St.op]);exact ⟨e2,zfi (zax (by decide) (by decide)) (by simp) (zdp f1) (by simp) zdk (by simp) zdk⟩
   split at h
   . rename_i hs
     have e:=za0 hg.1 (by decide) hs
     cases h1:pX l.tail with
     | none=>rw [h1] at h;cases h
     | some p=>
       obtain ⟨x,l1⟩:=p;rw [h1] at h;obtain ⟨e1,f1⟩:=ze2 h1 (hg.tl e);obtain ⟨rfl,e2⟩:=zmk h rfl hg (by rw [e,e1];simp [zyz,zpi,tEs]) (by simp [St.op]) (by simp [St.op]);exact ⟨e2,zfi (zax (by decide) (by decide)) (by simp) (zdp f1) (by simp) zdk (by simp) zdk⟩
   . obtain ⟨s',l1,hr⟩:=zpj h
     obtain ⟨e1,f1,h4,h5⟩:=zn1 hr hg;rw [vbw] at e1;obtain ⟨rfl,e2⟩:=zmk h hr hg e1 h4 h5;exact ⟨e2,f1⟩
theorem zdt:∀ (f:Nat) (l l':List Tk) (b:List St),zb0 f l=some (b,l')->zg6 l->l=brT (tSs b)++l'/\D.fines (za2 b)/\b.length<=l.length
 | 0,_,_,_,h,_=>by simp [zb0] at h
 | f + 1,l,l',b,h,hg=>by
   unfold zb0 at h
   split at h
   . rename_i hs
     have e:=za0 hg.1 (by decide) hs;have hl:=zam (by decide) hs;have k:=(hg.tl e).2;obtain ⟨e1,f1,c1⟩:=zii f [] l.tail l' b h (hg.tl e) (by simp at k ⊢;omega) zdk;refine ⟨?_,f1,by simp at c1;omega⟩
     rw [e,show l.tail=tSs b++kTk tRb :: l' from by simpa [tSs] using e1];simp [brT]
   . cases h
theorem zii:∀ (f:Nat) (acc:List St) (l l':List Tk) (b:List St),zec f acc l=some (b,l')->zg6 l->acc.length+l.length<=10000->D.fines (za2 acc)->tSs acc++l=tSs b++kTk tRb :: l'/\D.fines (za2 b)/\b.length<=acc.length+l.length
 | 0,_,_,_,_,h,_,_,_=>by simp [zec] at h
 | f + 1,acc,l,l',b,h,hg,hc,hf=>by
   unfold zec at h
   split at h
   . rename_i hs
     obtain ⟨rfl,rfl⟩:=vak (vac h);exact ⟨by rw [← za0 hg.1 (by decide) hs],hf,by omega⟩
   split at h
   . cases h
   rename_i s l1 h1
   obtain ⟨e1,f1⟩:=zpk f _ _ _ h1 hg;have hlt:=zmq f _ _ _ h1;obtain ⟨e2,f2,c2⟩:=zii f (acc++[s]) l1 l' b h (hg.of_eq e1) (by simp;omega) (by rw [zgq,zrh];exact D.fines_append hf f1);refine ⟨?_,f2,by simp at c2;omega⟩
   rw [← e2,zli,zzt,e1];simp
end
def z13 (b:Bool):List Tk:=if b then [kTk zc0] else []
theorem zuz {l:List Tk} (hr:zc6 l):l=z13 (skB l zc0)++zha l:=by
 unfold z13 zha
 cases h:skB l zc0 with
 | true=>exact za0 hr (by decide) h
 | false=>rfl
def tD (d:De):List Tk:=z13 d.pub++(if d.kind=1 then [kTk znl,wTk d.name,kTk tEq,nTk d.n,kTk zgy] else if d.kind=2 then [kTk z0w,wTk d.name,kTk zgy] else [kTk znm,wTk d.name,kTk tLs,nTk d.n,kTk tRs,kTk zgy])
theorem zpl {k n:Int} {nm:ByteArray} {p:Bool} (h1:(Lit.int .i64 k).wf=true) (h2:(Lit.int .i64 n).wf=true):D.fines (De.mk k nm p n).ds:=by
 simp only [De.ds,D.fines,D.fine];exact ⟨h1,trivial,trivial,h2,trivial⟩
theorem zpm {l l':List Tk} {d:De} (h:zb5 l=some (d,l')) (hg:zg6 l):l=tD d++l'/\D.fines d.ds:=by
 have ep:=zuz hg.1;have gp:=hg.of_eq ep;unfold zb5 at h
 split at h
 . rename_i hs
   have e:=za0 gp.1 (by decide) hs
   split at h
   . cases h
   rename_i n l1 h1
   obtain ⟨e1,n1⟩:=zdo (gp.tl e).1 h1;have g1:=(gp.tl e).tl e1
   split at h
   . rename_i hs2
     have e2:=za0 g1.1 (by decide) hs2
     split at h
     . cases h
     rename_i k l2 h2
     obtain ⟨e3,k0,k1⟩:=zpg (g1.tl e2).1 h2;have g3:=(g1.tl e2).tl e3
     split at h
     . rename_i hs3
       have e4:=za0 g3.1 (by decide) hs3;obtain ⟨rfl,rfl⟩:=vak (vac h);refine ⟨?_,zpl (zax (by decide) (by decide)) (zax (by omega) (by omega))⟩;refine ep.trans ?_
       rw [e,show (zha l).tail=wTk n :: l1 from e1,e2,show l1.tail=nTk k :: l2 from e3,e4];simp [tD]
     . cases h
   . cases h
 split at h
 . rename_i hs
   have e:=za0 gp.1 (by decide) hs
   split at h
   . cases h
   rename_i n l1 h1
   obtain ⟨e1,n1⟩:=zdo (gp.tl e).1 h1;have g1:=(gp.tl e).tl e1
   split at h
   . rename_i hs3
     have e4:=za0 g1.1 (by decide) hs3;obtain ⟨rfl,rfl⟩:=vak (vac h);refine ⟨?_,zpl (zax (by decide) (by decide)) (zax (by decide) (by decide))⟩;refine ep.trans ?_
     rw [e,show (zha l).tail=wTk n :: l1 from e1,e4];simp [tD]
   . cases h
 split at h
 . rename_i hs
   have e:=za0 gp.1 (by decide) hs
   split at h
   . cases h
   rename_i n l1 h1
   obtain ⟨e1,n1⟩:=zdo (gp.tl e).1 h1;have g1:=(gp.tl e).tl e1
   split at h
   . rename_i hs2
     have e2:=za0 g1.1 (by decide) hs2
     split at h
     . cases h
     rename_i k l2 h2
     obtain ⟨e3,k0,k1⟩:=zpg (g1.tl e2).1 h2;have g3:=(g1.tl e2).tl e3
     split at h
     . rename_i hs3
       have e4:=za0 g3.1 (by decide) hs3
       split at h
       . rename_i hs4
         have e5:=za0 (g3.tl e4).1 (by decide) hs4;obtain ⟨rfl,rfl⟩:=vak (vac h);refine ⟨?_,zpl (zax (by decide) (by decide)) (zax (by omega) (by omega))⟩;refine ep.trans ?_
         rw [e,show (zha l).tail=wTk n :: l1 from e1,e2,show l1.tail=nTk k :: l2 from e3,e4,show l2.tail=kTk zgy :: l2.tail.tail from e5];simp [tD]
       . cases h
     . cases h
   . cases h
 . cases h
def zlj (ps:List ByteArray):List Tk:=zds (ps.map (fun n=>[wTk n]))
theorem zg7:∀ (f:Nat) (acc:List ByteArray) (l l':List Tk) (ps:List ByteArray),zcx f acc l=some (ps,l')->zg6 l->acc≠[]->zlj acc++l=zlj ps++kTk tRp :: l'/\ps.length<=acc.length+l.length
 | 0,_,_,_,_,h,_,_=>by simp [zcx] at h
 | f + 1,acc,l,l',ps,h,hg,hne=>by
   unfold zcx at h
   split at h
   . rename_i hs
     have e:=za0 hg.1 (by decide) hs;have hl:=zam (by decide) hs
     split at h
     . cases h
     rename_i n l1 h1
     obtain ⟨e1,_⟩:=zdo (hg.tl e).1 h1;have hlt:=zbq h1;obtain ⟨e2,c2⟩:=zg7 f (acc++[n]) l1 l' ps h ((hg.tl e).tl e1) (by simp);refine ⟨?_,by simp at c2;omega⟩;rw [← e2];unfold zlj;rw [vbr,show [n].map (fun n=>[wTk n])=[[wTk n]] from rfl,zge _ _ (by simpa using hne),e,show l.tail=wTk n :: l1 from e1];simp
   split at h
   . rename_i hs
     obtain ⟨rfl,rfl⟩:=vak (vac h);exact ⟨by rw [← za0 hg.1 (by decide) hs],by omega⟩
   . cases h
theorem zpn {l l':List Tk} {ps:List ByteArray} (h:zgk l=some (ps,l')) (hg:zg6 l):l=zlj ps++kTk tRp :: l'/\ps.length<=l.length:=by
 unfold zgk at h
 split at h
 . rename_i hs
   obtain ⟨rfl,rfl⟩:=vak (vac h);exact ⟨za0 hg.1 (by decide) hs,by simp⟩
 split at h
 . cases h
 rename_i n l1 h1
 obtain ⟨e1,_⟩:=zdo hg.1 h1;have hlt:=zbq h1;obtain ⟨e2,c2⟩:=zg7 _ [n] l1 l' ps h (hg.tl e1) (by simp);exact ⟨by rw [e1,← e2];rfl,by simp at c2;omega⟩
def zxf (t:ByteArray) (l:List ByteArray):List Tk:=l.flatMap (fun n=>[kTk t,wTk n,kTk zgy])
theorem zgg (t:ByteArray) (ht:0<t.size):∀ (f:Nat) (acc:List ByteArray) (l l':List Tk) (ls:List ByteArray),zcy t f acc l=some (ls,l')->zg6 l->zxf t acc++l=zxf t ls++l'/\ls.length<=acc.length+l.length
 | 0,_,_,_,_,h,_=>by simp [zcy] at h
 | f + 1,acc,l,l',ls,h,hg=>by
   unfold zcy at h
   split at h
   . rename_i hs
     have e:=za0 hg.1 ht hs;have hl:=zam ht hs
     split at h
     . cases h
     rename_i n l1 h1
     obtain ⟨e1,_⟩:=zdo (hg.tl e).1 h1;have hlt:=zbq h1;have g1:=(hg.tl e).tl e1
     split at h
     . rename_i hs2
       have e2:=za0 g1.1 (by decide) hs2;have hl2:=zam (by decide) hs2;obtain ⟨e3,c3⟩:=zgg t ht f (acc++[n]) l1.tail l' ls h (g1.tl e2);refine ⟨?_,by simp at c3 hl2 ⊢;omega⟩;rw [← e3,e,show l.tail=wTk n :: l1 from e1]
       conv=>lhs;rw [e2]
       simp [zxf]
     . cases h
   . obtain ⟨rfl,rfl⟩:=vak (vac h)
     exact ⟨rfl,by omega⟩
def tP (p:Pr):List Tk:=z13 p.pub++kTk zzg :: wTk p.name :: kTk tLp :: (zlj p.params++kTk tRp :: (zxf zd0 p.locals++brT (tSs p.body)))
theorem zg8:∀ (l:List ByteArray),D.fines (zan l)
 | []=>zdc
 | x :: r=>by
   show D.fines (.str x :: zan r);simp only [D.fines,D.fine];exact ⟨trivial,zg8 r⟩
theorem zzu {nm:ByteArray} {pb:Bool} {ps ls:List ByteArray} {b:List St} (h1:ps.length<=10000) (h2:ls.length<=10000) (h3:b.length<=10000) (h4:D.fines (za2 b)):D.fines (Pr.mk nm pb ps ls b).ds:=by
 simp only [Pr.ds,D.fines,D.fine];refine ⟨trivial,trivial,⟨?_,?_,zg8 _⟩,⟨?_,?_,zg8 _⟩,⟨?_,?_,h4⟩,trivial⟩
 . simp [zan]
 . simp [zan];omega
 . simp [zan]
 . simp [zan];omega
 . rw [zd4];omega
 . rw [zd4];omega
theorem zpo {l l':List Tk} {p:Pr} (h:zep l=some (p,l')) (hg:zg6 l):l=tP p++l'/\D.fines p.ds:=by
 have ep:=zuz hg.1;have gp:=hg.of_eq ep;unfold zep at h
 split at h
 . rename_i hs
   have e:=za0 gp.1 (by decide) hs
   split at h
   . cases h
   rename_i n l1 h1
   obtain ⟨e1,n1⟩:=zdo (gp.tl e).1 h1;have g1:=(gp.tl e).tl e1
   split at h
   . rename_i hs2
     have e2:=za0 g1.1 (by decide) hs2;have g2:=g1.tl e2
     split at h
     . cases h
     rename_i ps l2 h2
     obtain ⟨e3,c3⟩:=zpn h2 g2;have g3':=g2.of_eq e3;have g3:zg6 l2:=g3'.tl rfl
     split at h
     . cases h
     rename_i ls l3 h3
     obtain ⟨e4,c4⟩:=zgg zd0 (by decide) _ [] _ _ _ h3 g3
     have e4':l2=zxf zd0 ls++l3:=by simpa [zxf] using e4
     have g4:=g3.of_eq e4'
     split at h
     . cases h
     rename_i b l4 h4
     obtain ⟨e5,f5,c5⟩:=zdt _ _ _ _ h4 g4;obtain ⟨rfl,rfl⟩:=vak (vac h);have k2:l1.tail.length<=4096:=g2.2;have k3:=g3.2;have k4:=g4.2;refine ⟨?_,zzu (by omega) (by simp at c4;omega) (by omega) f5⟩;refine ep.trans ?_
     rw [e,show (zha l).tail=wTk n :: l1 from e1,e2,show l1.tail=zlj ps++kTk tRp :: l2 from e3,e4',e5];simp [tP]
   . cases h
 . cases h
theorem zij:∀ (f:Nat) (acc:List De) (l l':List Tk) (ds:List De),zeq f acc l=some (ds,l')->zg6 l->D.fines (zi4 acc)->acc.flatMap tD++l=ds.flatMap tD++l'/\D.fines (zi4 ds)/\ds.length<=acc.length+l.length
 | 0,_,_,_,_,h,_,_=>by simp [zeq] at h
 | f + 1,acc,l,l',ds,h,hg,hf=>by
   unfold zeq at h
   split at h
   . split at h
     . cases h
     rename_i d l1 h1
     obtain ⟨e1,f1⟩:=zpm h1 hg;have hlt:=zq4 h1;obtain ⟨e2,f2,c2⟩:=zij f (acc++[d]) l1 l' ds h (hg.of_eq e1) (by rw [show zi4 (acc++[d])=zi4 acc++d.ds from by simp [zi4]];exact D.fines_append hf f1);refine ⟨?_,f2,by simp at c2;omega⟩
     rw [← e2,e1];simp
   . obtain ⟨rfl,rfl⟩:=vak (vac h)
     exact ⟨rfl,hf,by omega⟩
theorem zik:∀ (f:Nat) (acc:List Pr) (l l':List Tk) (ps:List Pr),zer f acc l=some (ps,l')->zg6 l->D.fines (zhj acc)->acc.flatMap tP++l=ps.flatMap tP++kTk zo2 :: l'/\D.fines (zhj ps)/\ps.length<=acc.length+l.length
 | 0,_,_,_,_,h,_,_=>by simp [zer] at h
 | f + 1,acc,l,l',ps,h,hg,hf=>by
   unfold zer at h
   split at h
   . rename_i hs
     obtain ⟨rfl,rfl⟩:=vak (vac h);exact ⟨by rw [← za0 hg.1 (by decide) hs],hf,by omega⟩
   . split at h
     . cases h
     rename_i p l1 h1
     obtain ⟨e1,f1⟩:=zpo h1 hg;have hlt:=zq6 h1;obtain ⟨e2,f2,c2⟩:=zik f (acc++[p]) l1 l' ps h (hg.of_eq e1) (by rw [show zhj (acc++[p])=zhj acc++p.ds from by simp [zhj]];exact D.fines_append hf f1);refine ⟨?_,f2,by simp at c2;omega⟩
     rw [← e2,e1];simp
def tM (m:Mo):List Tk:=kTk zl9 :: wTk m.name :: kTk tLb :: (zxf zqk m.uses++(m.decls.flatMap tD++(m.procs.flatMap tP++kTk zo2 :: (brT (tSs m.main)++[kTk tRb]))))
structure Fine (m:Mo):Prop where
 uses:m.uses.length<=10000
 decls:m.decls.length<=10000
 procs:m.procs.length<=10000
 main:m.main.length<=10000
 fd:D.fines (zi4 m.decls)
 fp:D.fines (zhj m.procs)
 fm:D.fines (za2 m.main)
theorem zml {l l':List Tk} {m:Mo} (h:zcn l=some (m,l')) (hg:zg6 l):l=tM m++l'/\Fine m:=by
 unfold zcn at h
 split at h
 . rename_i hs
   have e:=za0 hg.1 (by decide) hs
   split at h
   . cases h
   rename_i n l1 h1
   obtain ⟨e1,n1⟩:=zdo (hg.tl e).1 h1;have g1:=(hg.tl e).tl e1
   split at h
   . rename_i hs2
     have e2:=za0 g1.1 (by decide) hs2;have g2:=g1.tl e2;have k2:l1.tail.length<=4096:=g2.2
     split at h
     . cases h
     rename_i us l2 h2
     obtain ⟨e3,c3⟩:=zgg zqk (by decide) _ [] _ _ _ h2 g2
     have e3':l1.tail=zxf zqk us++l2:=by simpa [zxf] using e3
     have g3:=g2.of_eq e3';have k3:=g3.2
     split at h
     . cases h
     rename_i ds l3 h3
     obtain ⟨e4,f4,c4⟩:=zij _ [] _ _ _ h3 g3 zdc
     have e4':l2=ds.flatMap tD++l3:=by simpa using e4
     have g4:=g3.of_eq e4';have k4:=g4.2
     split at h
     . cases h
     rename_i ps l4 h4
     obtain ⟨e5,f5,c5⟩:=zik _ [] _ _ _ h4 g4 zdc
     have e5':l3=ps.flatMap tP++kTk zo2 :: l4:=by simpa using e5
     have g5:zg6 l4:=(g4.of_eq e5').tl rfl;have k5:=g5.2
     split at h
     . cases h
     rename_i b l5 h5
     obtain ⟨e6,f6,c6⟩:=zdt _ _ _ _ h5 g5;have g6:=g5.of_eq e6
     split at h
     . rename_i hs3
       have e7:=za0 g6.1 (by decide) hs3;obtain ⟨rfl,rfl⟩:=vak (vac h);refine ⟨?_,⟨by show us.length<=10000;simp at c3 k2;omega,by show ds.length<=10000;simp at c4;omega,by show ps.length<=10000;simp at c5;omega,by show b.length<=10000;omega,f4,f5,f6⟩⟩
       rw [e,show l.tail=wTk n :: l1 from e1,e2,e3',e4',e5',e6,e7];simp [tM]
     . cases h
   . cases h
 . cases h
inductive exOk:Ex->Prop
 | mk {op n:Int} {m nm:ByteArray} {args:List Ex} (h1:exB op=true) (h2:zca (exS op) m nm=true) (h3:nOk (exS op) n=true) (h4:zas (exS op) args.length=true) (h5:∀ a ∈ args,exOk a):exOk (.mk op n m nm args)
theorem z06:∀ (k:Nat) (l:List Ex),zau k l=true->zai k l=false->zbc k l=true->∀ x ∈ l,exOk x
 | 0,l,_,h2,_,x,hx=>by
   simp [zai] at h2;rw [h2] at hx;cases hx
 | k+1,l,h1,h2,h3,x,hx=>by
   simp only [zau,vat] at h1;simp only [zai,vap] at h2;simp only [zbc,vat] at h3;have a1:=h1 x hx;have a3:=h3 x hx
   have a2:zai k x.args=false:=by
    have:=h2.2;rw [vau] at this;simpa using this x hx
   simp only [van] at a1 a3;obtain ⟨op,n,m,nm,args⟩:=x;exact .mk a1.1 a3.1 a3.2.1 a3.2.2.1 (z06 k args a1.2 a2 a3.2.2.2)
theorem zu0 {α:Type} {l:List α} (h:decide (0<l.length)=false):l=[]:=vaj (by have:=of_decide_eq_false h;omega)
inductive stOk:St->Prop
 | mk {op:Int} {m nm:ByteArray} {args:List Ex} {body other:List St} (h1:stB op=true) (h2:zca (stS op) m nm=true) (h3:zas (stS op) args.length=true) (h4:∀ a ∈ args,exOk a) (h5:(stS op).body=true\/body=[]) (h6:(stS op).other=true\/other=[]) (h7:∀ s ∈ body,stOk s) (h8:∀ s ∈ other,stOk s):stOk (.mk op m nm args body other)
theorem zzv:∀ (k:Nat) (l:List St),zal k l=true->zag k l=false->zaj k l=true->∀ s ∈ l,stOk s
 | 0,l,_,h2,_,x,hx=>by simp [zag] at h2
 | k + 1,l,h1,h2,h3,x,hx=>by
   simp only [zal,vat] at h1;simp only [zag,vap] at h2;simp only [zaj,vat] at h3;have a1:=h1 x hx;have a3:=h3 x hx;have a2:=h2.2;rw [vau] at a2;have a2:=a2 x hx;simp only [van] at a1 a3;simp only [vce,vap,vcf] at a2;obtain ⟨op,m,nm,args,body,other⟩:=x
   have hb:(stS op).body=true\/body=[]:=by
    have:=a3.2.2.2.1;simp [St.op,St.body] at this;exact this
   have ho:(stS op).other=true\/other=[]:=by
    have:=a3.2.2.2.2.1;simp [St.op,St.other] at this;exact this
   have hbm:body=[]\/zag k body=false:=by
    rcases a2.2.1 with h | h
    . left
      simp [St.op,St.body] at h;exact zu0 h.2
    . exact Or.inr h
   have hom:other=[]\/zag k other=false:=by
    rcases a2.2.2 with h | h
    . left
      exact zu0 h
    . exact Or.inr h
   refine .mk a1.1 a3.1 a3.2.1 (z06 6 args a1.2.1 a2.1 a3.2.2.1) hb ho ?_ ?_
   . rcases hbm with h | h
     . rw [h];intro s hs;cases hs
     . exact zzv k body a1.2.2.1 h a3.2.2.2.2.2.1
   . rcases hom with h | h
     . rw [h];intro s hs;cases hs
     . exact zzv k other a1.2.2.2 h a3.2.2.2.2.2.2
structure moOk (m:Mo):Prop where
 name:nameOk m.name=true
 uses:∀ u ∈ m.uses,nameOk u=true
 decls:∀ d ∈ m.decls,nameOk d.name=true/\zcf d=true/\1<=d.kind/\d.kind<=3
 procs:∀ p ∈ m.procs,nameOk p.name=true/\(∀ n ∈ p.params,nameOk n=true)/\(∀ n ∈ p.locals,nameOk n=true)/\(∀ s ∈ p.body,stOk s)
 main:∀ s ∈ m.main,stOk s
theorem zmm {m:Mo} (h:m.err=0):m.kinds=true/\m.many=false/\m.form=true:=by
 unfold Mo.err at h
 cases hk:m.kinds with
 | false=>rw [hk] at h;simp at h
 | true=>
   rw [hk] at h
   cases hm:m.many with
   | true=>rw [hm] at h;simp at h
   | false=>
     rw [hm] at h
     cases hf:m.form with
     | false=>rw [hf] at h;simp at h
     | true=>exact ⟨rfl,rfl,rfl⟩
theorem z07 {m:Mo} (h:m.err=0):moOk m:=by
 obtain ⟨hk,hm,hf⟩:=zmm h;unfold Mo.kinds at hk;unfold Mo.many at hm;unfold Mo.form at hf;simp only [van,vat,decide_eq_true_eq] at hk hf;simp only [vap] at hm;have hmb:=hm.2.2.2.2;rw [vau] at hmb
 have body:∀ b ∈ m.bodies,∀ s ∈ b,stOk s:=fun b hb=>zzv 6 b (hk.2 b hb) (by simpa using hmb b hb) (hf.2.2.2.2 b hb)
 exact {
  name:=hf.1
  uses:=hf.2.1
  decls:=fun d hd=>⟨(hf.2.2.1 d hd).1,(hf.2.2.1 d hd).2,hk.1 d hd⟩
  procs:=fun p hp=>⟨(hf.2.2.2.1 p hp).1,(hf.2.2.2.1 p hp).2.1,(hf.2.2.2.1 p hp).2.2,body p.body (by unfold Mo.bodies;simp;exact Or.inl ⟨p,hp,rfl⟩)⟩
  main:=body m.main (by unfold Mo.bodies;simp) }
theorem zc6.append {a b:List Tk} (h:zc6 a) (k:zc6 b):zc6 (a++b):=⟨by rw [vaw,h.1,k.1];rfl,by rw [vaw,h.2,k.2];rfl⟩
theorem zc6.cons {t:Tk} {b:List Tk} (h:zc6 [t]) (k:zc6 b):zc6 (t :: b):=zc6.append (a:=[t]) h k
theorem zc6.nil:zc6 []:=⟨rfl,rfl⟩
end Go.Proofs.YtndkhgakfodldaaGreatDoor
