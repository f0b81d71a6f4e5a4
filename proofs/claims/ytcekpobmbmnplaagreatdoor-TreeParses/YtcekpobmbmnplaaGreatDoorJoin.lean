/-
  Plain mathematics of texts of tokens: texts with a blank between them are read one behind the other; what is shown is read as it was; what is read is right.
-/
import Derived.Test.YtcekpobmbmnplaaGreatDoorStep
import Derived.Test.YtcekpobmbmnplaaGreatDoorTd
import Derived.Test.YtcekpobmbmnplaaGreatDoorPj
namespace Go.Proofs.YtcekpobmbmnplaaGreatDoor
open Go.RowKit
def zco (l:List UInt8):Nat:=if Lx.runL l=0 then 1 else Lx.runL l
theorem ziw (l:List UInt8):0<zco l:=by unfold zco;split<;>omega
theorem zzq (l:List UInt8):Lx.runL l<=l.length:=(List.takeWhile_prefix Lx.alnB (l:=l)).length_le
theorem zuk (c:UInt8) (l:List UInt8):zco (c :: l)<=(c :: l).length:=by
 have:=zzq (c :: l);unfold zco;split
 . simp
 . exact this
def zfj:List UInt8->Option (List Tk)
 | []=>some []
 | c :: l=>
   if zcf c then zfj ((c :: l).drop (zco (c :: l)))
   else match zcg (strOf ((c :: l).take (zco (c :: l)))) with
    | none=>none
    | some t=>(zfj ((c :: l).drop (zco (c :: l)))).map (t :: ·)
termination_by l=>l.length
decreasing_by
 all_goals have:=ziw (c :: l);simp only [List.length_drop,List.length_cons];omega
theorem zpn (s:ByteArray) (a n:Nat):s.extract a (a+n)=strOf ((s.data.toList.drop a).take n):=by
 rw [← zix,za8]
theorem zso:∀ (n:Nat) (s:ByteArray) (a:Nat),s.size - a=n->zc6 s a=zfj (s.data.toList.drop a):=by
 intro n
 induction n using Nat.strongRecOn with
 | _ n ih=>
   intro s a hn
   by_cases h:a<s.size
   . have hd:=zh6 s a h
     have hp:Lx.pieceN s a=zco (s.data.toList.drop a):=rfl;have hpos:=Lx.pieceN_pos s a;have ih':=ih (s.size - (a+Lx.pieceN s a)) (by omega) s (a+Lx.pieceN s a) rfl
     have hdd:s.data.toList.drop (a+Lx.pieceN s a)=(s.data.toList.drop a).drop (Lx.pieceN s a):=by rw [List.drop_drop]
     cases hb:zcf s[a] with
     | true=>
       rw [zj7 s a h hb,ih',hdd,hp,hd,zfj,if_pos hb]
     | false=>
       have he:=zpn s a (Lx.pieceN s a)
       cases ht:zcg (s.extract a (a+Lx.pieceN s a)) with
       | none=>
         rw [zlz s a h hb ht];rw [he,hp,hd] at ht;rw [hd,zfj,if_neg (by simp [hb]),ht]
       | some t=>
         rw [zl0 s a t h hb ht,ih',hdd];rw [he,hp,hd] at ht;rw [hp,hd,zfj,if_neg (by simp [hb]),ht]
   . rw [zj6 s a h,List.drop_eq_nil_of_le (by rw [Lx.len_toList];omega),zfj]
theorem zlv (s:ByteArray):zc6 s 0=zfj s.data.toList:=by
 have:=zso _ s 0 rfl;rwa [List.drop_zero] at this
def z22 (x y:Option (List Tk)):Option (List Tk):=x.bind fun ts=>y.map (ts++·)
def zdv:List UInt8->Bool
 | []=>true
 | c :: _=>zcf c
theorem zxm (x y:List UInt8) (hy:zdv y=true):Lx.runL (x++y)=Lx.runL x:=by
 induction x with
 | nil=>
   cases y with
   | nil=>rfl
   | cons c r=>simp [Lx.runL,(zj9 (c:=c) hy).1]
 | cons c r ih=>
   unfold Lx.runL at *;rw [List.cons_append,List.takeWhile_cons,List.takeWhile_cons];split
   . simp [ih]
   . rfl
theorem zmv:∀ (n:Nat) (x y:List UInt8),x.length=n->zdv y=true->zfj (x++y)=z22 (zfj x) (zfj y):=by
 intro n
 induction n using Nat.strongRecOn with
 | _ n ih=>
   intro x y hn hy
   cases x with
   | nil=>
     rw [List.nil_append];show zfj y=z22 (zfj []) (zfj y);rw [show zfj []=some [] from by rw [zfj]]
     cases zfj y<;>rfl
   | cons c r=>
     have hpc:zco ((c :: r)++y)=zco (c :: r):=by unfold zco;rw [zxm _ _ hy]
     have hle:=zuk c r;have hpos:=ziw (c :: r)
     have e1:((c :: r)++y).drop (zco ((c :: r)++y))=(c :: r).drop (zco (c :: r))++y:=by
      rw [hpc,List.drop_append_of_le_length hle]
     have e2:((c :: r)++y).take (zco ((c :: r)++y))=(c :: r).take (zco (c :: r)):=by
      rw [hpc,List.take_append_of_le_length hle]
     have ih':=ih ((c :: r).drop (zco (c :: r))).length (by rw [List.length_drop];simp at hn ⊢;omega) _ y rfl hy;rw [List.cons_append] at e1 e2 ⊢;rw [zfj,e1,e2,ih',zfj];split
     . rfl
     . cases zcg (strOf ((c :: r).take (zco (c :: r)))) with
       | none=>rfl
       | some t=>
         cases zfj ((c :: r).drop (zco (c :: r))) with
         | none=>rfl
         | some ts=>cases zfj y<;>rfl
theorem zlw (l:List UInt8):zfj (32 :: l)=zfj l:=by
 have hr:zco (32 :: l)=1:=by
  unfold zco;rw [if_pos (by unfold Lx.runL;rw [List.takeWhile_cons,if_neg (by decide)];rfl)]
 rw [zfj,if_pos (by rfl),hr]
 rfl
theorem zmw (l:List UInt8) (t:Tk) (hne:l≠[]) (hp:zco l=l.length) (hb:zdv l=false) (ht:zcg (strOf l)=some t):zfj l=some [t]:=by
 cases l with
 | nil=>exact absurd rfl hne
 | cons c r=>
   rw [zfj,hp,List.drop_length,List.take_length,ht,if_neg (by simpa [zdv] using hb)];rw [show zfj []=some [] from by rw [zfj]]
   rfl
theorem zoa (l:List UInt8) (hne:l≠[]) (h:l.all Lx.alnB=true):zco l=l.length/\zdv l=false/\Lx.signL l=false:=by
 have hr:Lx.runL l=l.length:=Lx.runL_at l l.length (by rw [List.take_length];exact h) (Nat.le_refl _) (fun h=>by omega);refine ⟨?_,?_,?_⟩
 . unfold zco
   rw [hr,if_neg (fun e=>hne (List.eq_nil_of_length_eq_zero e))]
 . cases l with
   | nil=>exact absurd rfl hne
   | cons c r=>simp at h;exact (zh5 h.1).2
 . match l with
   | []=>rfl
   | [c]=>simp at h;exact (zh5 h).1
   | _ :: _ :: _=>rfl
theorem zsp (u:Nat):(Lib.decDigits u).all Lx.digB=true/\Lib.decDigits u≠[]/\Lx.valL (Lib.decDigits u)=u:=by
 have one:∀ d,d<10->Lx.digB (UInt8.ofNat (48+d))=true/\Lx.dv (UInt8.ofNat (48+d))=d:=by
  intro d hd
  have e:(UInt8.ofNat (48+d)).toNat=48+d:=by rw [UInt8.toNat_ofNat'];omega
  constructor
  . unfold Lx.digB;rw [e];simp;omega
  . unfold Lx.dv;rw [e];omega
 induction u using Nat.strongRecOn with
 | _ u ih=>
   by_cases h:u<10
   . rw [Lx.dec_small u h]
     refine ⟨?_,by simp,?_⟩
     . rw [List.all_cons,(one u h).1];rfl
     . have:=Lx.valL_snoc [] (UInt8.ofNat (48+u))
       rw [List.nil_append,(one u h).2] at this
       rw [this];simp [Lx.valL]
   . obtain ⟨h1,h2,h3⟩:=ih (u / 10) (by omega)
     rw [Lib.decDigits,dif_neg h];have hm:=one (u % 10) (by omega);refine ⟨?_,by simp,?_⟩
     . rw [List.all_append,h1,List.all_cons,hm.1];rfl
     . rw [Lx.valL_snoc,h3,hm.2];omega
theorem zzr {l:List UInt8} (h:l.all Lx.digB=true):l.all Lx.alnB=true:=by
 rw [List.all_eq_true] at *;intro c hc
 unfold Lx.alnB;rw [h c hc];simp
theorem zul {t:Tk} (hk:zd7 t=true) (h:Tk.okB t=true):zfj (zhb t)=some [t]:=by
 obtain ⟨K,N,S⟩:=t;unfold Tk.okB at h;simp only at h
 by_cases k1:K=1
 . subst k1
   rw [if_pos rfl] at h;simp only [Bool.and_eq_true,decide_eq_true_eq] at h;obtain ⟨rfl,hn⟩:=h
   have hx:zhb ⟨1,0,S⟩=S.data.toList:=by unfold zhb;rw [if_neg (by show ¬ (1:Int)=2;decide)]
   rw [hx]
   have hne:S.data.toList≠[]:=fun e=>by rw [e] at hn;cases hn
   have hall:S.data.toList.all Lx.alnB=true:=by unfold Lx.nameB at hn;simp only [Bool.and_eq_true] at hn;exact hn.2
   obtain ⟨hp,hb,hs⟩:=zoa _ hne hall;refine zmw _ _ hne hp hb ?_;unfold zcg;rw [zdh,hs,hn,za8]
   rfl
 . rw [if_neg k1] at h
   by_cases k2:K=2
   . subst k2
     rw [if_pos rfl] at h;simp only [Bool.and_eq_true,decide_eq_true_eq] at h;obtain ⟨hS,h0,h1⟩:=h;obtain ⟨n,rfl⟩:=Int.eq_ofNat_of_zero_le h0
     have hS':S=⟨#[]⟩:=by
      rw [Lib.toList_data,List.isEmpty_iff] at hS
      rw [← za8 S,hS];rfl
     subst hS'
     have hx:zhb ⟨2,(n:Int),⟨#[]⟩⟩=Lib.decDigits n:=by unfold zhb;rw [if_pos rfl];simp
     rw [hx];obtain ⟨hd,hne,hv⟩:=zsp n;obtain ⟨hp,hb,hs⟩:=zoa _ hne (zzr hd);refine zmw _ _ hne hp hb ?_
     have hnm:Lx.nameB (Lib.decDigits n)=false:=by
      unfold Lx.nameB
      cases hl:Lib.decDigits n with
      | nil=>rfl
      | cons c r=>
        rw [hl] at hd;simp only [List.all_cons,Bool.and_eq_true] at hd;have:=Lx.dig_range c hd.1
        have hc:Lx.letB c=false:=by unfold Lx.letB;simp;omega
        simp [Lx.headLet,hc]
     have hok:Lx.numOk (Lib.decDigits n)=true:=by
      rw [Lx.numOk_digits _ hne hd,hv];simp;omega
     unfold zcg;rw [zdh,hs,hnm,hok,hv]
     rfl
   . rw [if_neg k2] at h
     simp only [Bool.and_eq_true,decide_eq_true_eq] at h;obtain ⟨rfl,hs⟩:=h
     have k3:K=3:=by unfold zd7 at hk;simp at hk;omega
     subst k3
     have hx:zhb ⟨3,0,S⟩=S.data.toList:=by unfold zhb;rw [if_neg (by show ¬ (3:Int)=2;decide)]
     rw [hx];have hlen:=zr4 hs
     match hl:S.data.toList,hlen with
     | [c],_=>
       rw [hl] at hs;have hc:Lx.signB c=true:=hs;refine zmw _ _ (by simp) ?_ (zfp hc).2 ?_
       . have hr:Lx.runL [c]=0:=by
          unfold Lx.runL;rw [List.takeWhile_cons,if_neg (by rw [(zfp hc).1];simp)]
          rfl
         unfold zco;rw [if_pos hr]
         rfl
       . unfold zcg
         rw [zdh,hs,← hl,za8]
         rfl
theorem zq2:∀ (r:List Tk),r.all zd7=true->r.all Tk.okB=true->zfj (r.flatMap fun t=>32 :: zhb t)=some r
 | [],_,_=>by rw [List.flatMap_nil,zfj]
 | t :: r,hk,ho=>by
   simp only [List.all_cons,Bool.and_eq_true] at hk ho;have ih:=zq2 r hk.2 ho.2;rw [List.flatMap_cons,List.cons_append,zlw]
   have hs:zdv (r.flatMap fun t=>32 :: zhb t)=true:=by cases r<;>rfl
   rw [zmv _ _ _ rfl hs,zul hk.1 ho.1,ih]
   rfl
theorem zmx (ts:List Tk) (h:zam ts):zfj (showL ts)=some ts:=by
 cases ts with
 | nil=>show zfj []=some [];rw [zfj]
 | cons t r=>
   obtain ⟨hk,ho⟩:=h;simp only [List.all_cons,Bool.and_eq_true] at hk ho
   have hs:zdv (r.flatMap fun t=>32 :: zhb t)=true:=by cases r<;>rfl
   show zfj (zhb t++r.flatMap fun t=>32 :: zhb t)=_;rw [zmv _ _ _ rfl hs,zul hk.1 ho.1,zq2 r hk.2 ho.2]
   rfl
theorem zpo {s:ByteArray} {t:Tk} (h:zcg s=some t):zd7 t=true/\Tk.okB t=true:=by
 unfold zcg at h
 split at h
 . rename_i hs
   cases h;exact ⟨rfl,by unfold Tk.okB;simp [hs]⟩
 . split at h
   . rename_i hn
     cases h;exact ⟨rfl,by unfold Tk.okB;simp [hn]⟩
   . split at h
     . rename_i hk
       cases h;refine ⟨rfl,?_⟩
       have hv:Lx.valL s.data.toList<=1099511627775:=by unfold Lx.numOk at hk;simp at hk;exact hk.2
       unfold Tk.okB;rw [Lib.toList_data];simp;omega
     . cases h
theorem zsq:∀ (n:Nat) (l:List UInt8) (ts:List Tk),l.length=n->zfj l=some ts->zam ts/\ts.length<=l.length:=by
 intro n
 induction n using Nat.strongRecOn with
 | _ n ih=>
   intro l ts hn h
   cases l with
   | nil=>rw [zfj] at h;cases h;exact ⟨⟨rfl,rfl⟩,Nat.le_refl _⟩
   | cons c r=>
     have hpos:=ziw (c :: r)
     have hlen:((c :: r).drop (zco (c :: r))).length<n:=by rw [List.length_drop];simp at hn ⊢;omega
     rw [zfj] at h
     split at h
     . obtain ⟨h1,h2⟩:=ih _ hlen _ ts rfl h
       exact ⟨h1,by omega⟩
     . cases ht:zcg (strOf ((c :: r).take (zco (c :: r)))) with
       | none=>rw [ht] at h;cases h
       | some t=>
         rw [ht] at h
         cases hr:zfj ((c :: r).drop (zco (c :: r))) with
         | none=>rw [hr] at h;cases h
         | some us=>
           rw [hr] at h;cases h;obtain ⟨h1,h2⟩:=ih _ hlen _ us rfl hr;obtain ⟨hk,ho⟩:=zpo ht;refine ⟨⟨?_,?_⟩,?_⟩
           . rw [List.all_cons,hk,h1.1];rfl
           . rw [List.all_cons,ho,h1.2];rfl
           . simp only [List.length_cons] at *;omega
end Go.Proofs.YtcekpobmbmnplaaGreatDoor

namespace Go.Proofs.YtcekpobmbmnplaaGreatDoor
open Go.RowKit
structure Sh where
 named:Bool
 number:Bool
 least:Int
 most:Int
 body:Bool
 other:Bool
def Sh.val (s:Sh):Value:=.agg #[.bool s.named,.bool s.number,.int .i64 s.least,.int .i64 s.most,.bool s.body,.bool s.other]
def sh0:Sh:=⟨false,false,0,0,false,false⟩
def zhd (op:Int):Option Sh:=
 if op=1 then some ⟨false,true,0,0,false,false⟩ else if op=2 then some sh0 else if op=3 then some ⟨true,false,0,0,false,false⟩
 else if op=4 then some ⟨true,false,1,1,false,false⟩ else if op=5 then some ⟨true,false,0,3,false,false⟩ else if op=6 then some ⟨false,false,1,1,false,false⟩
 else if 7<=op/\op<=15 then some ⟨false,false,2,2,false,false⟩ else none
def zje (op:Int):Option Sh:=
 if op=1 then some ⟨true,false,1,1,false,false⟩ else if op=2 then some ⟨true,false,2,2,false,false⟩ else if op=3 then some ⟨true,false,0,3,false,false⟩
 else if op=4 then some ⟨false,false,1,1,true,true⟩ else if op=5 then some ⟨false,false,1,1,true,false⟩ else if op=6 then some ⟨false,false,1,1,false,false⟩
 else if op=7 then some ⟨false,false,1,1,false,false⟩ else none
def exB (op:Int):Bool:=(zhd op).isSome
def stB (op:Int):Bool:=(zje op).isSome
def exS (op:Int):Sh:=(zhd op).getD sh0
def stS (op:Int):Sh:=(zje op).getD sh0
def kept:List (List UInt8):=[[109,111,100,117,108,101],[117,115,101],[112,117,98],[99,111,110,115,116],[118,97,114],[97,114,114,97,121],[112,114,111,99],[108,111,99,97,108],[109,97,105,110],
 [105,102],[101,108,115,101],[119,104,105,108,101],[114,101,116,117,114,110],[111,117,116],[105,110]]
def zjf (s:ByteArray):Bool:=kept.contains s.data.toList
def zae (s:ByteArray):Bool:=!zjf s&&Lx.nameB s.data.toList
def ze8 (n:Int):Bool:=decide (0<=n)&&decide (n<=1099511627775)
def zca (h:Sh) (mod name:ByteArray):Bool:=if h.named then zae name&&(decide (mod.size=0)||zae mod) else decide (mod.size=0)&&decide (name.size=0)
def nOk (h:Sh) (n:Int):Bool:=if h.number then ze8 n else decide (n=0)
def zas (h:Sh) (k:Nat):Bool:=decide (h.least<=(k:Int))&&decide ((k:Int)<=h.most)
def za4:Nat->List Ex->Bool
 | 0,_=>true
 | k+1,l=>l.all (fun x=>exB x.op&&za4 k x.args)
def zat:Nat->List St->Bool
 | 0,_=>true
 | k+1,l=>l.all (fun s=>stB s.op&&(za4 6 s.args&&(zat k s.body&&zat k s.other)))
def zao:Nat->List Ex->Bool
 | 0,l=>decide (0<l.length)
 | k+1,l=>decide (3<l.length)||l.any (fun x=>zao k x.args)
def zak:Nat->List St->Bool
 | 0,_=>true
 | k+1,l=>decide (10<l.length)||l.any (fun s=>zao 6 s.args||(((stS s.op).body||decide (0<s.body.length))&&zak k s.body||(decide (0<s.other.length)&&zak k s.other)))
def zbp:Nat->List Ex->Bool
 | 0,_=>true
 | k+1,l=>l.all (fun x=>zca (exS x.op) x.mod x.name&&(nOk (exS x.op) x.n&&(zas (exS x.op) x.args.length&&zbp k x.args)))
def zav:Nat->List St->Bool
 | 0,_=>true
 | k+1,l=>l.all (fun s=>zca (stS s.op) s.mod s.name&&(zas (stS s.op) s.args.length&&(zbp 6 s.args&&(((stS s.op).body||decide (s.body.length=0))&&(((stS s.op).other||decide (s.other.length=0))&&(zav k s.body&&zav k s.other))))))
def zc7 (d:De):Bool:=if d.kind=1 then ze8 d.n else if d.kind=3 then decide (1<=d.n)&&decide (d.n<=32) else decide (d.n=0)
def Mo.bodies (m:Mo):List (List St):=m.procs.map Pr.body++[m.main]
def Mo.kinds (m:Mo):Bool:=m.decls.all (fun d=>decide (1<=d.kind)&&decide (d.kind<=3))&&m.bodies.all (zat 6)
def Mo.many (m:Mo):Bool:=decide (3<m.uses.length)||(decide (10<m.decls.length)||(decide (6<m.procs.length)||(m.procs.any (fun p=>decide (3<p.params.length)||decide (4<p.locals.length))||m.bodies.any (zak 6))))
def Mo.form (m:Mo):Bool:=zae m.name&&(m.uses.all zae&&(m.decls.all (fun d=>zae d.name&&zc7 d)&&(m.procs.all (fun p=>zae p.name&&(p.params.all zae&&p.locals.all zae))&&m.bodies.all (zav 6))))
def Mo.err (m:Mo):Int:=if m.kinds then (if m.many then 2 else (if m.form then 0 else 1)) else 4
theorem za1 {α:Type} (ts:List α) (p:α->Bool) (k:Nat) (h:k<ts.length):(ts.take (k+1)).any p=((ts.take k).any p||p ts[k]):=by
 rw [List.take_succ_eq_append_getElem h,List.any_append];simp
theorem zbw {α:Type} (ts:List α) (p:α->Bool) (k:Nat) (h:k<ts.length) (hp:p ts[k]=true):ts.any p=true:=by
 rw [List.any_eq_true];exact ⟨ts[k],List.getElem_mem _,hp⟩
theorem zff {α:Type} {ts:List α} {p:α->Bool} {k:Nat} (h:(ts.take k).all p=true) (hk:¬ k<ts.length):ts.all p=true:=by
 rw [List.take_of_length_le (by omega)] at h;exact h
theorem zbq {α:Type} {ts:List α} {p:α->Bool} {k:Nat} (h:(ts.take k).any p=false) (hk:¬ k<ts.length):ts.any p=false:=by
 rw [List.take_of_length_le (by omega)] at h;exact h
end Go.Proofs.YtcekpobmbmnplaaGreatDoor

namespace Go.Proofs.YtcekpobmbmnplaaGreatDoor
open Go.RowKit
def kTk (t:ByteArray):Tk:=⟨if Lx.nameB t.data.toList then 1 else 3,0,t⟩
def wTk (t:ByteArray):Tk:=⟨1,0,t⟩
def nTk (n:Int):Tk:=⟨2,n,⟨#[]⟩⟩
theorem zvf {l:List UInt8} (h:Lx.signL l=true):Lx.nameB l=false:=by
 match l,h with
 | [c],h=>
   have h':Lx.signs.contains c=true:=h
   have key:∀ c ∈ Lx.signs,Lx.nameB [c]=false:=by decide
   exact key c (List.contains_iff_mem.1 h')
theorem zam.of_app {a b:List Tk} (h:zam (a++b)):zam b:=by
 obtain ⟨h1,h2⟩:=h;rw [List.all_append,Bool.and_eq_true] at h1 h2;exact ⟨h1.2,h2.2⟩
theorem zam.of_cons {t:Tk} {b:List Tk} (h:zam (t :: b)):zam b:=zam.of_app (a:=[t]) h
theorem zam.head {t:Tk} {b:List Tk} (h:zam (t :: b)):zd7 t=true/\Tk.okB t=true:=by
 obtain ⟨h1,h2⟩:=h;rw [List.all_cons,Bool.and_eq_true] at h1 h2;exact ⟨h1.1,h2.1⟩
theorem zam.of_eq {a b c:List Tk} (h:zam a) (e:a=b++c):zam c:=by rw [e] at h;exact h.of_app
theorem zl8 {s t:ByteArray} (h:s.toList=t.toList):s=t:=by
 rw [Lib.toList_data,Lib.toList_data] at h;exact ByteArray.ext (Array.ext' h)
theorem za5 {l:List Tk} {t:ByteArray} (hr:zam l) (ht:0<t.size) (h:skB l t=true):l=kTk t :: l.tail:=by
 cases l with
 | nil=>exact absurd rfl (zra ht h)
 | cons x r=>
   obtain ⟨hk,ho⟩:=hr.head;obtain ⟨k,n,s⟩:=x;have hs:s=t:=zl8 (beq_iff_eq.1 h);subst hs;show Tk.mk k n s :: r=kTk s :: r
   have hne:s.toList.isEmpty=false:=by
    cases he:s.toList.isEmpty with
    | false=>rfl
    | true=>
      rw [Lib.toList_data] at he;have h1:=Lx.len_toList s;rw [List.isEmpty_iff.1 he] at h1;simp at h1;omega
   unfold zd7 at hk;simp only [Bool.and_eq_true,decide_eq_true_eq] at hk;unfold Tk.okB at ho
   have h123:k=1\/k=2\/k=3:=by omega
   rcases h123 with rfl | rfl | rfl
   . simp at ho
     unfold kTk
     rw [ho.1,ho.2];rfl
   . simp [hne] at ho
   . simp at ho
     unfold kTk
     rw [ho.1,zvf ho.2];rfl
theorem zrj (s:ByteArray):zkf s=zjf s:=by
 unfold zkf zjf;rw [Lib.toList_data];show zzz.any _=kept.contains _;rw [Bool.eq_iff_iff,List.any_eq_true,List.contains_iff_mem]
 constructor
 . rintro ⟨x,hx,h⟩
   rw [beq_iff_eq.1 h];exact hx
 . intro h
   exact ⟨_,h,beq_self_eq_true _⟩
theorem zef {l l':List Tk} {a:ByteArray} (hr:zam l) (h:zc3 l=some (a,l')):l=wTk a :: l'/\zae a=true:=by
 unfold zc3 at h
 split at h
 . rename_i hk
   obtain ⟨rfl,rfl⟩:=Prod.mk.inj (Option.some.inj h);simp only [Bool.and_eq_true,beq_iff_eq,Bool.not_eq_true'] at hk
   cases l with
   | nil=>exact absurd hk.1 (by decide)
   | cons x r=>
     obtain ⟨_,ho⟩:=hr.head;obtain ⟨k,n,s⟩:=x;have e1:k=1:=hk.1;have e2:zkf s=false:=hk.2;subst e1;unfold Tk.okB at ho;simp at ho;have e3:n=0:=ho.1;subst e3;refine ⟨rfl,?_⟩;show zae s=true;unfold zae
     rw [← zrj,e2,ho.2];rfl
 . cases h
theorem znc {l l':List Tk} {a:Int} (hr:zam l) (h:zh9 l=some (a,l')):l=nTk a :: l'/\0<=a/\a<=1099511627775:=by
 unfold zh9 at h
 split at h
 . rename_i hk
   obtain ⟨rfl,rfl⟩:=Prod.mk.inj (Option.some.inj h)
   cases l with
   | nil=>exact absurd hk (by decide)
   | cons x r=>
     obtain ⟨_,ho⟩:=hr.head;obtain ⟨k,n,s⟩:=x;have e1:k=2:=hk;subst e1;unfold Tk.okB at ho;simp at ho
     have e2:s=⟨#[]⟩:=by
      apply zl8
      rw [ho.1,Lib.toList_data]
     subst e2;exact ⟨rfl,ho.2⟩
 . cases h
def refT (m n:ByteArray):List Tk:=if m.size=0 then [wTk n] else [wTk m,kTk tDot,wTk n]
theorem zrk {s:ByteArray} (h:zae s=true):0<s.size:=by
 rcases Nat.eq_zero_or_pos s.size with h0 | h0
 . exfalso
   have:s.data.toList=[]:=List.eq_nil_of_length_eq_zero (by rw [Lx.len_toList];exact h0);unfold zae at h;rw [this] at h;simp [Lx.nameB,Lx.headLet] at h
 . exact h0
theorem zvg {l l':List Tk} {m n:ByteArray} (hr:zam l) (h:zok l=some ((m,n),l')):l=refT m n++l'/\zae n=true/\(m.size=0\/zae m=true):=by
 unfold zok at h
 split at h
 . cases h
 rename_i a l1 h1
 obtain ⟨e1,n1⟩:=zef hr h1;have r1:zam l1:=hr.of_eq (b:=[wTk a]) e1
 split at h
 . rename_i hs
   have e2:=za5 r1 (by decide) hs
   split at h
   . cases h
   rename_i b l2 h2
   obtain ⟨e3,n3⟩:=zef (r1.of_eq (b:=[kTk tDot]) e2) h2;obtain ⟨h3,rfl⟩:=Prod.mk.inj (Option.some.inj h);obtain ⟨rfl,rfl⟩:=Prod.mk.inj h3;refine ⟨?_,n3,Or.inr n1⟩;unfold refT
   rw [if_neg (by have:=zrk n1;omega),e1,e2,show l1.tail=wTk b :: l2 from e3];rfl
 . obtain ⟨h3,rfl⟩:=Prod.mk.inj (Option.some.inj h)
   obtain ⟨rfl,rfl⟩:=Prod.mk.inj h3;exact ⟨e1,n1,Or.inl rfl⟩
def opTk (op:Int):Tk:=kTk (opTexts.getD (op - 7).toNat ⟨#[]⟩)
def commas:List (List Tk)->List Tk
 | []=>[]
 | [x]=>x
 | x :: y :: r=>x++kTk tCom :: commas (y :: r)
def exTok (op n:Int) (m nm:ByteArray) (xs:List (List Tk)):List Tk:=
 if op=1 then [nTk n] else if op=2 then [kTk tIn] else if op=3 then refT m nm
 else if op=4 then refT m nm++kTk tLs :: (xs.getD 0 []++[kTk tRs])
 else if op=5 then refT m nm++kTk tLp :: (commas xs++[kTk tRp])
 else if op=6 then kTk tNot :: xs.getD 0 []
 else kTk tLp :: (xs.getD 0 []++opTk op :: (xs.getD 1 []++[kTk tRp]))
mutual
def tE:Ex->List Tk
 | .mk op n m nm args=>exTok op n m nm (tEs args)
def tEs:List Ex->List (List Tk)
 | []=>[]
 | x :: r=>tE x :: tEs r
end
theorem zfr:∀ (a b:List Ex),tEs (a++b)=tEs a++tEs b
 | [],b=>by simp [tEs]
 | x :: r,b=>by simp [tEs,zfr r b]
theorem zgl:∀ (a:List Ex),(tEs a).length=a.length
 | []=>by simp [tEs]
 | x :: r=>by simp [tEs,zgl r]
theorem ze1:∀ (a:List (List Tk)) (x:List Tk),a≠[]->commas (a++[x])=commas a++kTk tCom :: x
 | [],_,h=>absurd rfl h
 | [y],x,_=>by simp [commas]
 | y :: z :: r,x,_=>by
   have:=ze1 (z :: r) x (by simp);show y++kTk tCom :: commas ((z :: r)++[x])=(y++kTk tCom :: commas (z :: r))++kTk tCom :: x
   rw [this];simp
theorem za3 {n:Int} (h0 : -9223372036854775808<=n) (h1:n<=9223372036854775807):(Lit.int .i64 n).wf=true:=by
 have e1:IntKind.i64.min = -9223372036854775808:=by decide
 have e2:IntKind.i64.max=9223372036854775807:=by decide
 simp [Lit.wf,e1,e2];omega
theorem zie:∀ (l:List Ex),(zaw l).length=5*l.length
 | []=>by simp [zaw]
 | x :: r=>by
   have:=x.ds_len
   simp [zaw,zie r,this];omega
theorem zes:∀ (l:List St),(za0 l).length=6*l.length
 | []=>by simp [za0]
 | x :: r=>by
   have:=x.ds_len
   simp [za0,zes r,this];omega
theorem zdm {op n:Int} {m nm:ByteArray} {args:List Ex} (h1:(Lit.int .i64 op).wf=true) (h2:(Lit.int .i64 n).wf=true) (h3:args.length<=10000) (h4:D.fines (zaw args)):D.fines (Ex.mk op n m nm args).ds:=by
 unfold Ex.ds;simp only [D.fines,D.fine];refine ⟨h1,h2,trivial,trivial,⟨?_,?_,h4⟩,trivial⟩
 . rw [zie];omega
 . rw [zie];omega
theorem zap:D.fines []:=by unfold D.fines;trivial
theorem zb7 {x:Ex} (h:D.fines x.ds):D.fines (zaw [x]):=by rw [zf8];exact h
theorem zjm {x y:Ex} (h:D.fines x.ds) (k:D.fines y.ds):D.fines (zaw [x,y]):=by
 show D.fines (x.ds++(y.ds++[]));exact D.fines_append h (D.fines_append k zap)
theorem zrl {l:List Tk} {k:Nat} (hr:zam l) (h:zm4 l=some k):l=opTk (7+k) :: l.tail/\k<9:=by
 unfold zm4 at h;obtain ⟨hk,h2,_⟩:=List.findIdx?_eq_some_iff_getElem.1 h
 have hp:0<(opTexts[k]).size:=by
  have:∀ x ∈ opTexts,0<x.size:=by decide
  exact this _ (List.getElem_mem hk)
 refine ⟨?_,hk⟩;have e:=za5 hr hp h2;unfold opTk;rw [show ((7:Int)+(k:Int) - 7).toNat=k from by omega,List.getD_eq_getElem?_getD,List.getElem?_eq_getElem hk];exact e
def zif (l:List Tk):Prop:=zam l/\l.length<=4096
theorem zif.of_eq {a b c:List Tk} (h:zif a) (e:a=b++c):zif c:=⟨h.1.of_eq e,by have:=h.2;rw [e,List.length_append] at this;omega⟩
theorem zif.tl {a c:List Tk} {t:Tk} (h:zif a) (e:a=t :: c):zif c:=h.of_eq (b:=[t]) e
mutual
theorem zdw:∀ (f:Nat) (l l':List Tk) (x:Ex),zbd f l=some (x,l')->zif l->l=tE x++l'/\D.fines x.ds
 | 0,_,_,_,h,_=>by simp [zbd] at h
 | f + 1,l,l',x,h,hg=>by
   unfold zbd at h
   split at h
   . rename_i hk
     obtain ⟨rfl,rfl⟩:=Prod.mk.inj (Option.some.inj h)
     have hn:zh9 l=some ((hd l).n,l.tail):=by unfold zh9;rw [if_pos hk]
     obtain ⟨e,h0,h1⟩:=znc hg.1 hn;exact ⟨by simpa [tE,exTok] using e,zdm (za3 (by decide) (by decide)) (za3 (by omega) (by omega)) (by simp) (by unfold zaw;exact zap)⟩
   split at h
   . rename_i hs
     obtain ⟨rfl,rfl⟩:=Prod.mk.inj (Option.some.inj h);exact ⟨by simpa [tE,exTok] using za5 hg.1 (by decide) hs,zdm (za3 (by decide) (by decide)) (za3 (by decide) (by decide)) (by simp) (by unfold zaw;exact zap)⟩
   split at h
   . rename_i hs
     have e:=za5 hg.1 (by decide) hs
     split at h
     . cases h
     rename_i y l1 h1
     obtain ⟨rfl,rfl⟩:=Prod.mk.inj (Option.some.inj h);obtain ⟨e1,f1⟩:=zdw f _ _ _ h1 (hg.tl e);refine ⟨?_,zdm (za3 (by decide) (by decide)) (za3 (by decide) (by decide)) (by simp) (zb7 f1)⟩
     rw [e,show l.tail=tE y++l1 from e1];simp [tE,tEs,exTok]
   split at h
   . rename_i hs
     have e:=za5 hg.1 (by decide) hs;obtain ⟨e1,f1⟩:=zp3 f _ _ _ h (hg.tl e);exact ⟨e.trans e1,f1⟩
   split at h
   . cases h
   rename_i m nm l1 h1
   obtain ⟨e1,n1,n2⟩:=zvg hg.1 h1;have g1:=hg.of_eq e1
   split at h
   . rename_i hs
     have e2:=za5 g1.1 (by decide) hs
     split at h
     . cases h
     rename_i y l2 h2
     obtain ⟨e3,f3⟩:=zdw f _ _ _ h2 (g1.tl e2)
     split at h
     . rename_i hs2
       have e4:=za5 ((g1.tl e2).of_eq e3).1 (by decide) hs2;obtain ⟨rfl,rfl⟩:=Prod.mk.inj (Option.some.inj h);refine ⟨?_,zdm (za3 (by decide) (by decide)) (za3 (by decide) (by decide)) (by simp) (zb7 f3)⟩
       rw [e1,e2,show l1.tail=tE y++l2 from e3,e4];simp [tE,tEs,exTok]
     . cases h
   split at h
   . rename_i hs
     have e2:=za5 g1.1 (by decide) hs
     split at h
     . cases h
     rename_i ys l2 h2
     obtain ⟨e3,f3,c3⟩:=zkj f _ _ _ h2 (g1.tl e2);obtain ⟨rfl,rfl⟩:=Prod.mk.inj (Option.some.inj h);have hl3:l1.tail.length<=4096:=(g1.tl e2).2;refine ⟨?_,zdm (za3 (by decide) (by decide)) (za3 (by decide) (by decide)) (by omega) f3⟩
     rw [e1,e2,show l1.tail=commas (tEs ys)++kTk tRp :: l2 from e3];simp [tE,exTok]
   . obtain ⟨rfl,rfl⟩:=Prod.mk.inj (Option.some.inj h)
     refine ⟨?_,zdm (za3 (by decide) (by decide)) (za3 (by decide) (by decide)) (by simp) (by unfold zaw;exact zap)⟩
     rw [e1];simp [tE,exTok]
theorem zp3:∀ (f:Nat) (l l':List Tk) (x:Ex),zf0 f l=some (x,l')->zif l->kTk tLp :: l=tE x++l'/\D.fines x.ds
 | 0,_,_,_,h,_=>by simp [zf0] at h
 | f + 1,l,l',x,h,hg=>by
   unfold zf0 at h
   split at h
   . cases h
   rename_i a l1 h1
   obtain ⟨e1,f1⟩:=zdw f _ _ _ h1 hg;have g1:=hg.of_eq e1
   split at h
   . cases h
   rename_i k hk
   obtain ⟨e2,k9⟩:=zrl g1.1 hk
   split at h
   . cases h
   rename_i b l2 h2
   obtain ⟨e3,f3⟩:=zdw f _ _ _ h2 (g1.tl e2)
   split at h
   . rename_i hs
     have e4:=za5 ((g1.tl e2).of_eq e3).1 (by decide) hs;obtain ⟨rfl,rfl⟩:=Prod.mk.inj (Option.some.inj h);refine ⟨?_,zdm (za3 (by omega) (by omega)) (za3 (by decide) (by decide)) (by simp) (zjm f1 f3)⟩
     have hop:∀ xs,exTok (7+(k:Int)) 0 ⟨#[]⟩ ⟨#[]⟩ xs=kTk tLp :: (xs.getD 0 []++opTk (7+k) :: (xs.getD 1 []++[kTk tRp])):=by
      intro xs;unfold exTok;rw [if_neg (by omega),if_neg (by omega),if_neg (by omega),if_neg (by omega),if_neg (by omega),if_neg (by omega)]
     rw [e1,e2,show l1.tail=tE b++l2 from e3,e4];simp only [tE,hop,tEs];simp
   . cases h
theorem zkj:∀ (f:Nat) (l l':List Tk) (xs:List Ex),zd4 f l=some (xs,l')->zif l->l=commas (tEs xs)++kTk tRp :: l'/\D.fines (zaw xs)/\xs.length<=l.length
 | 0,_,_,_,h,_=>by simp [zd4] at h
 | f + 1,l,l',xs,h,hg=>by
   unfold zd4 at h
   split at h
   . rename_i hs
     obtain ⟨rfl,rfl⟩:=Prod.mk.inj (Option.some.inj h);exact ⟨by simpa [tEs,commas] using za5 hg.1 (by decide) hs,by unfold zaw;exact zap,by simp⟩
   split at h
   . cases h
   rename_i x l1 h1
   obtain ⟨e1,f1⟩:=zdw f _ _ _ h1 hg;have hlt:=zds f _ _ _ h1;obtain ⟨e2,f2,c2⟩:=zkk f [x] l1 l' xs h (hg.of_eq e1) (by simp) (by have:=hg.2;simp;omega) (zb7 f1);refine ⟨?_,f2,by simp at c2;omega⟩
   rw [e1,← e2];simp [tEs,commas]
theorem zkk:∀ (f:Nat) (acc:List Ex) (l l':List Tk) (xs:List Ex),ze0 f acc l=some (xs,l')->zif l->acc≠[]->acc.length+l.length<=10000->D.fines (zaw acc)->commas (tEs acc)++l=commas (tEs xs)++kTk tRp :: l'/\D.fines (zaw xs)/\xs.length<=acc.length+l.length
 | 0,_,_,_,_,h,_,_,_,_=>by simp [ze0] at h
 | f + 1,acc,l,l',xs,h,hg,hne,hc,hf=>by
   unfold ze0 at h
   split at h
   . rename_i hs
     have e:=za5 hg.1 (by decide) hs;have hl:=zaq (by decide) hs
     split at h
     . cases h
     rename_i x l1 h1
     obtain ⟨e1,f1⟩:=zdw f _ _ _ h1 (hg.tl e);have hlt:=zds f _ _ _ h1;obtain ⟨e2,f2,c2⟩:=zkk f (acc++[x]) l1 l' xs h ((hg.tl e).of_eq e1) (by simp) (by simp;omega) (by rw [zec];exact D.fines_append hf (zb7 f1));refine ⟨?_,f2,by simp at c2;omega⟩;rw [← e2,zfr,show tEs [x]=[tE x] from by simp [tEs],ze1 _ _ (by intro h0;apply hne;have:=zgl acc;rw [h0] at this;exact List.eq_nil_of_length_eq_zero this.symm),e,show l.tail=tE x++l1 from e1];simp
   split at h
   . rename_i hs
     obtain ⟨rfl,rfl⟩:=Prod.mk.inj (Option.some.inj h);exact ⟨by rw [← za5 hg.1 (by decide) hs],hf,by omega⟩
   . cases h
end
end Go.Proofs.YtcekpobmbmnplaaGreatDoor
