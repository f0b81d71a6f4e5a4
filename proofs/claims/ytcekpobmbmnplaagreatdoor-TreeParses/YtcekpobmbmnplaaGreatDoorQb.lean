/-
  The tokens of statements, declarations, procedures and modules; what is read has just these.
-/
import Derived.Test.YtcekpobmbmnplaaGreatDoorJoin
namespace Go.Proofs.YtcekpobmbmnplaaGreatDoor
open Go.RowKit
def zb0 (op:Int) (m nm:ByteArray) (xs:List (List Tk)):List Tk:=
 if op=1 then refT m nm++kTk tEq :: xs.getD 0 []
 else if op=2 then refT m nm++kTk tLs :: (xs.getD 0 []++kTk tRs :: kTk tEq :: xs.getD 1 [])
 else if op=3 then refT m nm++kTk tLp :: (commas xs++[kTk tRp])
 else if op=6 then kTk tReturn :: xs.getD 0 [] else kTk tOut :: xs.getD 0 []
def brT (x:List Tk):List Tk:=kTk tLb :: (x++[kTk tRb])
def zbv (op:Int) (m nm:ByteArray) (xs:List (List Tk)) (b o:List Tk) (k:Nat):List Tk:=
 if op=4 then kTk tIf :: (xs.getD 0 []++(brT b++(if k=0 then [] else kTk tElse :: brT o)))
 else if op=5 then kTk tWhile :: (xs.getD 0 []++brT b)
 else zb0 op m nm xs++[kTk tSem]
mutual
def tS:St->List Tk
 | .mk op m nm args body other=>zbv op m nm (tEs args) (tSs body) (tSs other) other.length
def tSs:List St->List Tk
 | []=>[]
 | s :: r=>tS s++tSs r
end
theorem zew:∀ (a b:List St),tSs (a++b)=tSs a++tSs b
 | [],b=>by simp [tSs]
 | x :: r,b=>by simp [tSs,zew r b]
theorem zp4 (s:St):tSs [s]=tS s:=by simp [tSs]
theorem zdn {op:Int} {m nm:ByteArray} {args:List Ex} {body other:List St} (h1:(Lit.int .i64 op).wf=true) (h3:args.length<=10000) (h4:D.fines (zaw args)) (h5:body.length<=10000) (h6:D.fines (za0 body)) (h7:other.length<=10000) (h8:D.fines (za0 other)):D.fines (St.mk op m nm args body other).ds:=by
 unfold St.ds;simp only [D.fines,D.fine];refine ⟨h1,trivial,trivial,⟨?_,?_,h4⟩,⟨?_,?_,h6⟩,⟨?_,?_,h8⟩,trivial⟩
 . rw [zie];omega
 . rw [zie];omega
 . rw [zes];omega
 . rw [zes];omega
 . rw [zes];omega
 . rw [zes];omega
theorem zeb:D.fines (za0 []):=by unfold za0;exact zap
theorem zf3 {l l':List Tk} {x:Ex} (h:pX l=some (x,l')) (hg:zif l):l=tE x++l'/\D.fines x.ds:=zdw _ _ _ _ h hg
theorem zvh {l l':List Tk} {xs:List Ex} (h:pAs l=some (xs,l')) (hg:zif l):l=commas (tEs xs)++kTk tRp :: l'/\D.fines (zaw xs)/\xs.length<=l.length:=zkj _ _ _ _ h hg
def zyp:St->List Tk
 | .mk op m nm args _ _=>zb0 op m nm (tEs args)
theorem zon {l l':List Tk} {s:St} (h:zb4 l=some (s,l')) (hg:zif l):l++[]=zyp s++l'/\D.fines s.ds/\s.op≠4/\s.op≠5:=by
 unfold zb4 at h
 split at h
 . cases h
 rename_i m nm l1 h1
 obtain ⟨e1,n1,n2⟩:=zvg hg.1 h1;have g1:=hg.of_eq e1
 split at h
 . rename_i hs
   have e2:=za5 g1.1 (by decide) hs
   split at h
   . cases h
   rename_i x l2 h2
   obtain ⟨e3,f3⟩:=zf3 h2 (g1.tl e2);obtain ⟨rfl,rfl⟩:=Prod.mk.inj (Option.some.inj h);refine ⟨?_,zdn (za3 (by decide) (by decide)) (by simp) (zb7 f3) (by simp) zeb (by simp) zeb,by simp [St.op],by simp [St.op]⟩
   rw [List.append_nil,e1,e2,show l1.tail=tE x++l2 from e3];simp [zyp,tEs,zb0]
 split at h
 . rename_i hs
   have e2:=za5 g1.1 (by decide) hs
   split at h
   . cases h
   rename_i x l2 h2
   obtain ⟨e3,f3⟩:=zf3 h2 (g1.tl e2);have g3:=(g1.tl e2).of_eq e3
   split at h
   . rename_i hs2
     have e4:=za5 g3.1 (by decide) hs2
     split at h
     . rename_i hs3
       have e5:=za5 (g3.tl e4).1 (by decide) hs3
       split at h
       . cases h
       rename_i y l3 h3
       obtain ⟨e6,f6⟩:=zf3 h3 ((g3.tl e4).tl e5);obtain ⟨rfl,rfl⟩:=Prod.mk.inj (Option.some.inj h);refine ⟨?_,zdn (za3 (by decide) (by decide)) (by simp) (zjm f3 f6) (by simp) zeb (by simp) zeb,by simp [St.op],by simp [St.op]⟩
       rw [List.append_nil,e1,e2,show l1.tail=tE x++l2 from e3,e4,show l2.tail=kTk tEq :: l2.tail.tail from e5,show l2.tail.tail=tE y++l3 from e6];simp [zyp,tEs,zb0]
     . cases h
   . cases h
 split at h
 . rename_i hs
   have e2:=za5 g1.1 (by decide) hs
   split at h
   . cases h
   rename_i xs l2 h2
   obtain ⟨e3,f3,c3⟩:=zvh h2 (g1.tl e2);have hl3:l1.tail.length<=4096:=(g1.tl e2).2;obtain ⟨rfl,rfl⟩:=Prod.mk.inj (Option.some.inj h);refine ⟨?_,zdn (za3 (by decide) (by decide)) (by omega) f3 (by simp) zeb (by simp) zeb,by simp [St.op],by simp [St.op]⟩
   rw [List.append_nil,e1,e2,show l1.tail=commas (tEs xs)++kTk tRp :: l2 from e3];simp [zyp,zb0]
 . cases h
theorem znd {l l1 l2:List Tk} {s s':St} {r:Option (St × List Tk)} (h:zcy r=some (s,l2)) (hr:r=some (s',l1)) (hg:zif l) (e:l=zyp s'++l1) (h4:s'.op≠4) (h5:s'.op≠5):s=s'/\l=tS s'++l2:=by
 subst hr;unfold zcy at h;simp only at h
 split at h
 . rename_i hs
   have e1:=za5 (hg.of_eq e).1 (by decide) hs;obtain ⟨rfl,rfl⟩:=Prod.mk.inj (Option.some.inj h);refine ⟨rfl,?_⟩;obtain ⟨op,m,nm,args,body,other⟩:=s';have h4':¬ op=4:=h4;have h5':¬ op=5:=h5;rw [e,e1];simp [zyp,tS,zbv,h4',h5']
 . cases h
theorem zp5 {r:Option (St × List Tk)} {s:St} {l:List Tk} (h:zcy r=some (s,l)):∃ s' l1,r=some (s',l1):=by
 cases r with
 | none=>cases h
 | some p=>exact ⟨p.1,p.2,rfl⟩
mutual
theorem zp6:∀ (f:Nat) (l l':List Tk) (s:St),zdj f l=some (s,l')->zif l->l=tS s++l'/\D.fines s.ds
 | 0,_,_,_,h,_=>by simp [zdj] at h
 | f + 1,l,l',s,h,hg=>by
   unfold zdj at h
   split at h
   . rename_i hs
     have e:=za5 hg.1 (by decide) hs
     split at h
     . cases h
     rename_i x l1 h1
     obtain ⟨e1,f1⟩:=zf3 h1 (hg.tl e);have g1:=(hg.tl e).of_eq e1
     split at h
     . cases h
     rename_i b l2 h2
     obtain ⟨e2,f2,c2⟩:=zej f _ _ _ h2 g1;have g2:=g1.of_eq e2;have k1:=g1.2
     split at h
     . rename_i hs2
       have e3:=za5 g2.1 (by decide) hs2
       split at h
       . cases h
       rename_i o l3 h3
       obtain ⟨e4,f4,c4⟩:=zej f _ _ _ h3 (g2.tl e3);have k2:l2.tail.length<=4096:=(g2.tl e3).2
       split at h
       . cases h
       rename_i ho
       obtain ⟨rfl,rfl⟩:=Prod.mk.inj (Option.some.inj h);refine ⟨?_,zdn (za3 (by decide) (by decide)) (by simp) (zb7 f1) (by omega) f2 (by omega) f4⟩
       have ho':¬ o=[]:=fun h0=>ho (by rw [h0];rfl)
       rw [e,show l.tail=tE x++l1 from e1,e2,e3,show l2.tail=brT (tSs o)++l3 from e4];simp [tS,tEs,zbv,ho']
     . obtain ⟨rfl,rfl⟩:=Prod.mk.inj (Option.some.inj h)
       refine ⟨?_,zdn (za3 (by decide) (by decide)) (by simp) (zb7 f1) (by omega) f2 (by simp) zeb⟩
       rw [e,show l.tail=tE x++l1 from e1,e2];simp [tS,tEs,zbv]
   split at h
   . rename_i hs
     have e:=za5 hg.1 (by decide) hs
     split at h
     . cases h
     rename_i x l1 h1
     obtain ⟨e1,f1⟩:=zf3 h1 (hg.tl e);have g1:=(hg.tl e).of_eq e1
     split at h
     . cases h
     rename_i b l2 h2
     obtain ⟨e2,f2,c2⟩:=zej f _ _ _ h2 g1;have k1:=g1.2;obtain ⟨rfl,rfl⟩:=Prod.mk.inj (Option.some.inj h);refine ⟨?_,zdn (za3 (by decide) (by decide)) (by simp) (zb7 f1) (by omega) f2 (by simp) zeb⟩
     rw [e,show l.tail=tE x++l1 from e1,e2];simp [tS,tEs,zbv]
   split at h
   . rename_i hs
     have e:=za5 hg.1 (by decide) hs
     cases h1:pX l.tail with
     | none=>rw [h1] at h;cases h
     | some p=>
       obtain ⟨x,l1⟩:=p;rw [h1] at h;obtain ⟨e1,f1⟩:=zf3 h1 (hg.tl e);obtain ⟨rfl,e2⟩:=znd h rfl hg (by rw [e,e1];simp [zyp,zb0,tEs]) (by simp [St.op]) (by simp [St.op]);exact ⟨e2,zdn (za3 (by decide) (by decide)) (by simp) (zb7 f1) (by simp) zeb (by simp) zeb⟩
   split at h
   . rename_i hs
     have e:=za5 hg.1 (by decide) hs
     cases h1:pX l.tail with
     | none=>rw [h1] at h;cases h
     | some p=>
       obtain ⟨x,l1⟩:=p;rw [h1] at h;obtain ⟨e1,f1⟩:=zf3 h1 (hg.tl e);obtain ⟨rfl,e2⟩:=znd h rfl hg (by rw [e,e1];simp [zyp,zb0,tEs]) (by simp [St.op]) (by simp [St.op]);exact ⟨e2,zdn (za3 (by decide) (by decide)) (by simp) (zb7 f1) (by simp) zeb (by simp) zeb⟩
   . obtain ⟨s',l1,hr⟩:=zp5 h
     obtain ⟨e1,f1,h4,h5⟩:=zon hr hg;rw [List.append_nil] at e1;obtain ⟨rfl,e2⟩:=znd h hr hg e1 h4 h5;exact ⟨e2,f1⟩
theorem zej:∀ (f:Nat) (l l':List Tk) (b:List St),zbz f l=some (b,l')->zif l->l=brT (tSs b)++l'/\D.fines (za0 b)/\b.length<=l.length
 | 0,_,_,_,h,_=>by simp [zbz] at h
 | f + 1,l,l',b,h,hg=>by
   unfold zbz at h
   split at h
   . rename_i hs
     have e:=za5 hg.1 (by decide) hs;have hl:=zaq (by decide) hs;have k:=(hg.tl e).2;obtain ⟨e1,f1,c1⟩:=zi8 f [] l.tail l' b h (hg.tl e) (by simp at k ⊢;omega) zeb;refine ⟨?_,f1,by simp at c1;omega⟩
     rw [e,show l.tail=tSs b++kTk tRb :: l' from by simpa [tSs] using e1];simp [brT]
   . cases h
theorem zi8:∀ (f:Nat) (acc:List St) (l l':List Tk) (b:List St),zdp f acc l=some (b,l')->zif l->acc.length+l.length<=10000->D.fines (za0 acc)->tSs acc++l=tSs b++kTk tRb :: l'/\D.fines (za0 b)/\b.length<=acc.length+l.length
 | 0,_,_,_,_,h,_,_,_=>by simp [zdp] at h
 | f + 1,acc,l,l',b,h,hg,hc,hf=>by
   unfold zdp at h
   split at h
   . rename_i hs
     obtain ⟨rfl,rfl⟩:=Prod.mk.inj (Option.some.inj h);exact ⟨by rw [← za5 hg.1 (by decide) hs],hf,by omega⟩
   split at h
   . cases h
   rename_i s l1 h1
   obtain ⟨e1,f1⟩:=zp6 f _ _ _ h1 hg;have hlt:=zm7 f _ _ _ h1;obtain ⟨e2,f2,c2⟩:=zi8 f (acc++[s]) l1 l' b h (hg.of_eq e1) (by simp;omega) (by rw [zed,zio];exact D.fines_append hf f1);refine ⟨?_,f2,by simp at c2;omega⟩
   rw [← e2,zew,zp4,e1];simp
end
def pubT (b:Bool):List Tk:=if b then [kTk tPub] else []
theorem zvi {l:List Tk} (hr:zam l):l=pubT (skB l tPub)++zhw l:=by
 unfold pubT zhw
 cases h:skB l tPub with
 | true=>exact za5 hr (by decide) h
 | false=>rfl
def tD (d:De):List Tk:=pubT d.pub++(if d.kind=1 then [kTk tConst,wTk d.name,kTk tEq,nTk d.n,kTk tSem] else if d.kind=2 then [kTk tVar,wTk d.name,kTk tSem] else [kTk tArray,wTk d.name,kTk tLs,nTk d.n,kTk tRs,kTk tSem])
theorem ziz {k n:Int} {nm:ByteArray} {p:Bool} (h1:(Lit.int .i64 k).wf=true) (h2:(Lit.int .i64 n).wf=true):D.fines (De.mk k nm p n).ds:=by
 simp only [De.ds,D.fines,D.fine];exact ⟨h1,trivial,trivial,h2,trivial⟩
theorem zp7 {l l':List Tk} {d:De} (h:zcj l=some (d,l')) (hg:zif l):l=tD d++l'/\D.fines d.ds:=by
 have ep:=zvi hg.1;have gp:=hg.of_eq ep;unfold zcj at h
 split at h
 . rename_i hs
   have e:=za5 gp.1 (by decide) hs
   split at h
   . cases h
   rename_i n l1 h1
   obtain ⟨e1,n1⟩:=zef (gp.tl e).1 h1;have g1:=(gp.tl e).tl e1
   split at h
   . rename_i hs2
     have e2:=za5 g1.1 (by decide) hs2
     split at h
     . cases h
     rename_i k l2 h2
     obtain ⟨e3,k0,k1⟩:=znc (g1.tl e2).1 h2;have g3:=(g1.tl e2).tl e3
     split at h
     . rename_i hs3
       have e4:=za5 g3.1 (by decide) hs3;obtain ⟨rfl,rfl⟩:=Prod.mk.inj (Option.some.inj h);refine ⟨?_,ziz (za3 (by decide) (by decide)) (za3 (by omega) (by omega))⟩;refine ep.trans ?_
       rw [e,show (zhw l).tail=wTk n :: l1 from e1,e2,show l1.tail=nTk k :: l2 from e3,e4];simp [tD]
     . cases h
   . cases h
 split at h
 . rename_i hs
   have e:=za5 gp.1 (by decide) hs
   split at h
   . cases h
   rename_i n l1 h1
   obtain ⟨e1,n1⟩:=zef (gp.tl e).1 h1;have g1:=(gp.tl e).tl e1
   split at h
   . rename_i hs3
     have e4:=za5 g1.1 (by decide) hs3;obtain ⟨rfl,rfl⟩:=Prod.mk.inj (Option.some.inj h);refine ⟨?_,ziz (za3 (by decide) (by decide)) (za3 (by decide) (by decide))⟩;refine ep.trans ?_
     rw [e,show (zhw l).tail=wTk n :: l1 from e1,e4];simp [tD]
   . cases h
 split at h
 . rename_i hs
   have e:=za5 gp.1 (by decide) hs
   split at h
   . cases h
   rename_i n l1 h1
   obtain ⟨e1,n1⟩:=zef (gp.tl e).1 h1;have g1:=(gp.tl e).tl e1
   split at h
   . rename_i hs2
     have e2:=za5 g1.1 (by decide) hs2
     split at h
     . cases h
     rename_i k l2 h2
     obtain ⟨e3,k0,k1⟩:=znc (g1.tl e2).1 h2;have g3:=(g1.tl e2).tl e3
     split at h
     . rename_i hs3
       have e4:=za5 g3.1 (by decide) hs3
       split at h
       . rename_i hs4
         have e5:=za5 (g3.tl e4).1 (by decide) hs4;obtain ⟨rfl,rfl⟩:=Prod.mk.inj (Option.some.inj h);refine ⟨?_,ziz (za3 (by decide) (by decide)) (za3 (by omega) (by omega))⟩;refine ep.trans ?_
         rw [e,show (zhw l).tail=wTk n :: l1 from e1,e2,show l1.tail=nTk k :: l2 from e3,e4,show l2.tail=kTk tSem :: l2.tail.tail from e5];simp [tD]
       . cases h
     . cases h
   . cases h
 . cases h
def zaz (ps:List ByteArray):List Tk:=commas (ps.map (fun n=>[wTk n]))
theorem zig:∀ (f:Nat) (acc:List ByteArray) (l l':List Tk) (ps:List ByteArray),zcb f acc l=some (ps,l')->zif l->acc≠[]->zaz acc++l=zaz ps++kTk tRp :: l'/\ps.length<=acc.length+l.length
 | 0,_,_,_,_,h,_,_=>by simp [zcb] at h
 | f + 1,acc,l,l',ps,h,hg,hne=>by
   unfold zcb at h
   split at h
   . rename_i hs
     have e:=za5 hg.1 (by decide) hs;have hl:=zaq (by decide) hs
     split at h
     . cases h
     rename_i n l1 h1
     obtain ⟨e1,_⟩:=zef (hg.tl e).1 h1;have hlt:=zb6 h1;obtain ⟨e2,c2⟩:=zig f (acc++[n]) l1 l' ps h ((hg.tl e).tl e1) (by simp);refine ⟨?_,by simp at c2;omega⟩;rw [← e2];unfold zaz;rw [List.map_append,show [n].map (fun n=>[wTk n])=[[wTk n]] from rfl,ze1 _ _ (by simpa using hne),e,show l.tail=wTk n :: l1 from e1];simp
   split at h
   . rename_i hs
     obtain ⟨rfl,rfl⟩:=Prod.mk.inj (Option.some.inj h);exact ⟨by rw [← za5 hg.1 (by decide) hs],by omega⟩
   . cases h
theorem zp8 {l l':List Tk} {ps:List ByteArray} (h:ze5 l=some (ps,l')) (hg:zif l):l=zaz ps++kTk tRp :: l'/\ps.length<=l.length:=by
 unfold ze5 at h
 split at h
 . rename_i hs
   obtain ⟨rfl,rfl⟩:=Prod.mk.inj (Option.some.inj h);exact ⟨za5 hg.1 (by decide) hs,by simp⟩
 split at h
 . cases h
 rename_i n l1 h1
 obtain ⟨e1,_⟩:=zef hg.1 h1;have hlt:=zb6 h1;obtain ⟨e2,c2⟩:=zig _ [n] l1 l' ps h (hg.tl e1) (by simp);exact ⟨by rw [e1,← e2];rfl,by simp at c2;omega⟩
def zb8 (t:ByteArray) (l:List ByteArray):List Tk:=l.flatMap (fun n=>[kTk t,wTk n,kTk tSem])
theorem zhn (t:ByteArray) (ht:0<t.size):∀ (f:Nat) (acc:List ByteArray) (l l':List Tk) (ls:List ByteArray),zcm t f acc l=some (ls,l')->zif l->zb8 t acc++l=zb8 t ls++l'/\ls.length<=acc.length+l.length
 | 0,_,_,_,_,h,_=>by simp [zcm] at h
 | f + 1,acc,l,l',ls,h,hg=>by
   unfold zcm at h
   split at h
   . rename_i hs
     have e:=za5 hg.1 ht hs;have hl:=zaq ht hs
     split at h
     . cases h
     rename_i n l1 h1
     obtain ⟨e1,_⟩:=zef (hg.tl e).1 h1;have hlt:=zb6 h1;have g1:=(hg.tl e).tl e1
     split at h
     . rename_i hs2
       have e2:=za5 g1.1 (by decide) hs2;have hl2:=zaq (by decide) hs2;obtain ⟨e3,c3⟩:=zhn t ht f (acc++[n]) l1.tail l' ls h (g1.tl e2);refine ⟨?_,by simp at c3 hl2 ⊢;omega⟩;rw [← e3,e,show l.tail=wTk n :: l1 from e1]
       conv=>lhs;rw [e2]
       simp [zb8]
     . cases h
   . obtain ⟨rfl,rfl⟩:=Prod.mk.inj (Option.some.inj h)
     exact ⟨rfl,by omega⟩
def tP (p:Pr):List Tk:=pubT p.pub++kTk tProc :: wTk p.name :: kTk tLp :: (zaz p.params++kTk tRp :: (zb8 zar p.locals++brT (tSs p.body)))
theorem zih:∀ (l:List ByteArray),D.fines (zax l)
 | []=>zap
 | x :: r=>by
   show D.fines (.str x :: zax r);simp only [D.fines,D.fine];exact ⟨trivial,zih r⟩
theorem zvj {nm:ByteArray} {pb:Bool} {ps ls:List ByteArray} {b:List St} (h1:ps.length<=10000) (h2:ls.length<=10000) (h3:b.length<=10000) (h4:D.fines (za0 b)):D.fines (Pr.mk nm pb ps ls b).ds:=by
 simp only [Pr.ds,D.fines,D.fine];refine ⟨trivial,trivial,⟨?_,?_,zih _⟩,⟨?_,?_,zih _⟩,⟨?_,?_,h4⟩,trivial⟩
 . simp [zax]
 . simp [zax];omega
 . simp [zax]
 . simp [zax];omega
 . rw [zes];omega
 . rw [zes];omega
theorem zp9 {l l':List Tk} {p:Pr} (h:ze6 l=some (p,l')) (hg:zif l):l=tP p++l'/\D.fines p.ds:=by
 have ep:=zvi hg.1;have gp:=hg.of_eq ep;unfold ze6 at h
 split at h
 . rename_i hs
   have e:=za5 gp.1 (by decide) hs
   split at h
   . cases h
   rename_i n l1 h1
   obtain ⟨e1,n1⟩:=zef (gp.tl e).1 h1;have g1:=(gp.tl e).tl e1
   split at h
   . rename_i hs2
     have e2:=za5 g1.1 (by decide) hs2;have g2:=g1.tl e2
     split at h
     . cases h
     rename_i ps l2 h2
     obtain ⟨e3,c3⟩:=zp8 h2 g2;have g3':=g2.of_eq e3;have g3:zif l2:=g3'.tl rfl
     split at h
     . cases h
     rename_i ls l3 h3
     obtain ⟨e4,c4⟩:=zhn zar (by decide) _ [] _ _ _ h3 g3
     have e4':l2=zb8 zar ls++l3:=by simpa [zb8] using e4
     have g4:=g3.of_eq e4'
     split at h
     . cases h
     rename_i b l4 h4
     obtain ⟨e5,f5,c5⟩:=zej _ _ _ _ h4 g4;obtain ⟨rfl,rfl⟩:=Prod.mk.inj (Option.some.inj h);have k2:l1.tail.length<=4096:=g2.2;have k3:=g3.2;have k4:=g4.2;refine ⟨?_,zvj (by omega) (by simp at c4;omega) (by omega) f5⟩;refine ep.trans ?_
     rw [e,show (zhw l).tail=wTk n :: l1 from e1,e2,show l1.tail=zaz ps++kTk tRp :: l2 from e3,e4',e5];simp [tP]
   . cases h
 . cases h
theorem zi9:∀ (f:Nat) (acc:List De) (l l':List Tk) (ds:List De),zc5 f acc l=some (ds,l')->zif l->D.fines (zfk acc)->acc.flatMap tD++l=ds.flatMap tD++l'/\D.fines (zfk ds)/\ds.length<=acc.length+l.length
 | 0,_,_,_,_,h,_,_=>by simp [zc5] at h
 | f + 1,acc,l,l',ds,h,hg,hf=>by
   unfold zc5 at h
   split at h
   . split at h
     . cases h
     rename_i d l1 h1
     obtain ⟨e1,f1⟩:=zp7 h1 hg;have hlt:=zm8 h1;obtain ⟨e2,f2,c2⟩:=zi9 f (acc++[d]) l1 l' ds h (hg.of_eq e1) (by rw [show zfk (acc++[d])=zfk acc++d.ds from by simp [zfk]];exact D.fines_append hf f1);refine ⟨?_,f2,by simp at c2;omega⟩
     rw [← e2,e1];simp
   . obtain ⟨rfl,rfl⟩:=Prod.mk.inj (Option.some.inj h)
     exact ⟨rfl,hf,by omega⟩
theorem zja:∀ (f:Nat) (acc:List Pr) (l l':List Tk) (ps:List Pr),zcz f acc l=some (ps,l')->zif l->D.fines (zf9 acc)->acc.flatMap tP++l=ps.flatMap tP++kTk tMain :: l'/\D.fines (zf9 ps)/\ps.length<=acc.length+l.length
 | 0,_,_,_,_,h,_,_=>by simp [zcz] at h
 | f + 1,acc,l,l',ps,h,hg,hf=>by
   unfold zcz at h
   split at h
   . rename_i hs
     obtain ⟨rfl,rfl⟩:=Prod.mk.inj (Option.some.inj h);exact ⟨by rw [← za5 hg.1 (by decide) hs],hf,by omega⟩
   . split at h
     . cases h
     rename_i p l1 h1
     obtain ⟨e1,f1⟩:=zp9 h1 hg;have hlt:=zm9 h1;obtain ⟨e2,f2,c2⟩:=zja f (acc++[p]) l1 l' ps h (hg.of_eq e1) (by rw [show zf9 (acc++[p])=zf9 acc++p.ds from by simp [zf9]];exact D.fines_append hf f1);refine ⟨?_,f2,by simp at c2;omega⟩
     rw [← e2,e1];simp
def tM (m:Mo):List Tk:=kTk tModule :: wTk m.name :: kTk tLb :: (zb8 tUse m.uses++(m.decls.flatMap tD++(m.procs.flatMap tP++kTk tMain :: (brT (tSs m.main)++[kTk tRb]))))
structure Fine (m:Mo):Prop where
 uses:m.uses.length<=10000
 decls:m.decls.length<=10000
 procs:m.procs.length<=10000
 main:m.main.length<=10000
 fd:D.fines (zfk m.decls)
 fp:D.fines (zf9 m.procs)
 fm:D.fines (za0 m.main)
theorem zne {l l':List Tk} {m:Mo} (h:zc4 l=some (m,l')) (hg:zif l):l=tM m++l'/\Fine m:=by
 unfold zc4 at h
 split at h
 . rename_i hs
   have e:=za5 hg.1 (by decide) hs
   split at h
   . cases h
   rename_i n l1 h1
   obtain ⟨e1,n1⟩:=zef (hg.tl e).1 h1;have g1:=(hg.tl e).tl e1
   split at h
   . rename_i hs2
     have e2:=za5 g1.1 (by decide) hs2;have g2:=g1.tl e2;have k2:l1.tail.length<=4096:=g2.2
     split at h
     . cases h
     rename_i us l2 h2
     obtain ⟨e3,c3⟩:=zhn tUse (by decide) _ [] _ _ _ h2 g2
     have e3':l1.tail=zb8 tUse us++l2:=by simpa [zb8] using e3
     have g3:=g2.of_eq e3';have k3:=g3.2
     split at h
     . cases h
     rename_i ds l3 h3
     obtain ⟨e4,f4,c4⟩:=zi9 _ [] _ _ _ h3 g3 zap
     have e4':l2=ds.flatMap tD++l3:=by simpa using e4
     have g4:=g3.of_eq e4';have k4:=g4.2
     split at h
     . cases h
     rename_i ps l4 h4
     obtain ⟨e5,f5,c5⟩:=zja _ [] _ _ _ h4 g4 zap
     have e5':l3=ps.flatMap tP++kTk tMain :: l4:=by simpa using e5
     have g5:zif l4:=(g4.of_eq e5').tl rfl;have k5:=g5.2
     split at h
     . cases h
     rename_i b l5 h5
     obtain ⟨e6,f6,c6⟩:=zej _ _ _ _ h5 g5;have g6:=g5.of_eq e6
     split at h
     . rename_i hs3
       have e7:=za5 g6.1 (by decide) hs3;obtain ⟨rfl,rfl⟩:=Prod.mk.inj (Option.some.inj h);refine ⟨?_,⟨by show us.length<=10000;simp at c3 k2;omega,by show ds.length<=10000;simp at c4;omega,by show ps.length<=10000;simp at c5;omega,by show b.length<=10000;omega,f4,f5,f6⟩⟩
       rw [e,show l.tail=wTk n :: l1 from e1,e2,e3',e4',e5',e6,e7];simp [tM]
     . cases h
   . cases h
 . cases h
end Go.Proofs.YtcekpobmbmnplaaGreatDoor

namespace Go.Proofs.YtcekpobmbmnplaaGreatDoor
open Go.RowKit
inductive exOk:Ex->Prop
 | mk {op n:Int} {m nm:ByteArray} {args:List Ex} (h1:exB op=true) (h2:zca (exS op) m nm=true) (h3:nOk (exS op) n=true) (h4:zas (exS op) args.length=true) (h5:∀ a ∈ args,exOk a):exOk (.mk op n m nm args)
theorem z1q:∀ (k:Nat) (l:List Ex),za4 k l=true->zao k l=false->zbp k l=true->∀ x ∈ l,exOk x
 | 0,l,_,h2,_,x,hx=>by
   simp [zao] at h2;rw [h2] at hx;cases hx
 | k+1,l,h1,h2,h3,x,hx=>by
   simp only [za4,List.all_eq_true] at h1;simp only [zao,Bool.or_eq_false_iff] at h2;simp only [zbp,List.all_eq_true] at h3;have a1:=h1 x hx;have a3:=h3 x hx
   have a2:zao k x.args=false:=by
    have:=h2.2;rw [List.any_eq_false] at this;simpa using this x hx
   simp only [Bool.and_eq_true] at a1 a3;obtain ⟨op,n,m,nm,args⟩:=x;exact .mk a1.1 a3.1 a3.2.1 a3.2.2.1 (z1q k args a1.2 a2 a3.2.2.2)
theorem znf {α:Type} {l:List α} (h:decide (0<l.length)=false):l=[]:=List.eq_nil_of_length_eq_zero (by have:=of_decide_eq_false h;omega)
inductive stOk:St->Prop
 | mk {op:Int} {m nm:ByteArray} {args:List Ex} {body other:List St} (h1:stB op=true) (h2:zca (stS op) m nm=true) (h3:zas (stS op) args.length=true) (h4:∀ a ∈ args,exOk a) (h5:(stS op).body=true\/body=[]) (h6:(stS op).other=true\/other=[]) (h7:∀ s ∈ body,stOk s) (h8:∀ s ∈ other,stOk s):stOk (.mk op m nm args body other)
theorem zz3:∀ (k:Nat) (l:List St),zat k l=true->zak k l=false->zav k l=true->∀ s ∈ l,stOk s
 | 0,l,_,h2,_,x,hx=>by simp [zak] at h2
 | k + 1,l,h1,h2,h3,x,hx=>by
   simp only [zat,List.all_eq_true] at h1;simp only [zak,Bool.or_eq_false_iff] at h2;simp only [zav,List.all_eq_true] at h3;have a1:=h1 x hx;have a3:=h3 x hx;have a2:=h2.2;rw [List.any_eq_false] at a2;have a2:=a2 x hx;simp only [Bool.and_eq_true] at a1 a3;simp only [Bool.not_eq_true,Bool.or_eq_false_iff,Bool.and_eq_false_iff] at a2;obtain ⟨op,m,nm,args,body,other⟩:=x
   have hb:(stS op).body=true\/body=[]:=by
    have:=a3.2.2.2.1;simp [St.op,St.body] at this;exact this
   have ho:(stS op).other=true\/other=[]:=by
    have:=a3.2.2.2.2.1;simp [St.op,St.other] at this;exact this
   have hbm:body=[]\/zak k body=false:=by
    rcases a2.2.1 with h | h
    . left
      simp [St.op,St.body] at h;exact znf h.2
    . exact Or.inr h
   have hom:other=[]\/zak k other=false:=by
    rcases a2.2.2 with h | h
    . left
      exact znf h
    . exact Or.inr h
   refine .mk a1.1 a3.1 a3.2.1 (z1q 6 args a1.2.1 a2.1 a3.2.2.1) hb ho ?_ ?_
   . rcases hbm with h | h
     . rw [h];intro s hs;cases hs
     . exact zz3 k body a1.2.2.1 h a3.2.2.2.2.2.1
   . rcases hom with h | h
     . rw [h];intro s hs;cases hs
     . exact zz3 k other a1.2.2.2 h a3.2.2.2.2.2.2
structure moOk (m:Mo):Prop where
 name:zae m.name=true
 uses:∀ u ∈ m.uses,zae u=true
 decls:∀ d ∈ m.decls,zae d.name=true/\zc7 d=true/\1<=d.kind/\d.kind<=3
 procs:∀ p ∈ m.procs,zae p.name=true/\(∀ n ∈ p.params,zae n=true)/\(∀ n ∈ p.locals,zae n=true)/\(∀ s ∈ p.body,stOk s)
 main:∀ s ∈ m.main,stOk s
theorem zjn {m:Mo} (h:m.err=0):m.kinds=true/\m.many=false/\m.form=true:=by
 unfold Mo.err at h
 cases hk:m.kinds with
 | false=>rw [hk] at h;simp at h
 | true=>
   rw [hk] at h
   cases hm:m.many with
   | true=>rw [hm] at h;simp at h
   | false=>
     rw [hm] at h
     cases hf:m.form with
     | false=>rw [hf] at h;simp at h
     | true=>exact ⟨rfl,rfl,rfl⟩
theorem zqa {m:Mo} (h:m.err=0):moOk m:=by
 obtain ⟨hk,hm,hf⟩:=zjn h;unfold Mo.kinds at hk;unfold Mo.many at hm;unfold Mo.form at hf;simp only [Bool.and_eq_true,List.all_eq_true,decide_eq_true_eq] at hk hf;simp only [Bool.or_eq_false_iff] at hm;have hmb:=hm.2.2.2.2;rw [List.any_eq_false] at hmb
 have body:∀ b ∈ m.bodies,∀ s ∈ b,stOk s:=fun b hb=>zz3 6 b (hk.2 b hb) (by simpa using hmb b hb) (hf.2.2.2.2 b hb)
 exact {
  name:=hf.1
  uses:=hf.2.1
  decls:=fun d hd=>⟨(hf.2.2.1 d hd).1,(hf.2.2.1 d hd).2,hk.1 d hd⟩
  procs:=fun p hp=>⟨(hf.2.2.2.1 p hp).1,(hf.2.2.2.1 p hp).2.1,(hf.2.2.2.1 p hp).2.2,body p.body (by unfold Mo.bodies;simp;exact Or.inl ⟨p,hp,rfl⟩)⟩
  main:=body m.main (by unfold Mo.bodies;simp) }
theorem zam.append {a b:List Tk} (h:zam a) (k:zam b):zam (a++b):=⟨by rw [List.all_append,h.1,k.1];rfl,by rw [List.all_append,h.2,k.2];rfl⟩
theorem zam.cons {t:Tk} {b:List Tk} (h:zam [t]) (k:zam b):zam (t :: b):=zam.append (a:=[t]) h k
theorem zam.nil:zam []:=⟨rfl,rfl⟩
theorem zgc {s:ByteArray} (h:zae s=true):zam [wTk s]:=by
 unfold zae at h;simp at h;refine ⟨rfl,?_⟩;simp [wTk,Tk.okB,h.2]
theorem zz4 {n:Int} (h0:0<=n) (h1:n<=1099511627775):zam [nTk n]:=by
 refine ⟨rfl,?_⟩;simp [nTk,Tk.okB,h0,h1,Lib.toList_data]
theorem zby {t:ByteArray} (h:(Lx.nameB t.data.toList||Lx.signL t.data.toList)=true):zam [kTk t]:=by
 unfold kTk
 cases hn:Lx.nameB t.data.toList with
 | true=>exact ⟨rfl,by simp [Tk.okB,hn]⟩
 | false=>
   rw [hn] at h;exact ⟨rfl,by simpa [Tk.okB] using h⟩
theorem zqb {m n:ByteArray} (h:zae n=true) (k:m.size=0\/zae m=true):zam (refT m n):=by
 unfold refT;split
 . exact zgc h
 . rename_i h0
   exact .cons (zgc (k.resolve_left h0)) (.cons (zby (by decide)) (zgc h))
theorem zbs {sh:Sh} {m n:ByteArray} (hn:sh.named=true) (h:zca sh m n=true):zae n=true/\(m.size=0\/zae m=true):=by
 unfold zca at h;rw [if_pos hn] at h;simpa using h
theorem zbh {sh:Sh} {m n:ByteArray} (hn:sh.named=false) (h:zca sh m n=true):m=⟨#[]⟩/\n=⟨#[]⟩:=by
 unfold zca at h;rw [if_neg (by simp [hn])] at h;simp only [Bool.and_eq_true,decide_eq_true_eq] at h
 have e:∀ s:ByteArray,s.size=0->s=⟨#[]⟩:=fun s hs=>by
  have:s.data.toList=[]:=List.eq_nil_of_length_eq_zero (by rw [Lx.len_toList];exact hs);exact ByteArray.ext (Array.ext' this)
 exact ⟨e _ h.1,e _ h.2⟩
theorem zii:∀ (xs:List (List Tk)),(∀ x ∈ xs,zam x)->zam (commas xs)
 | [],_=>.nil
 | [x],h=>h x (by simp)
 | x :: y :: r,h=>(h x (by simp)).append (.cons (zby (by decide)) (zii (y :: r) (fun z hz=>h z (by simp [hz]))))
theorem zfs {xs:List (List Tk)} (h:∀ x ∈ xs,zam x) (i:Nat):zam (xs.getD i []):=by
 rw [List.getD_eq_getElem?_getD]
 rcases Nat.lt_or_ge i xs.length with hi | hi
 . rw [List.getElem?_eq_getElem hi];exact h _ (List.getElem_mem hi)
 . rw [List.getElem?_eq_none hi];exact .nil
theorem zho {x:List Tk}:∀ {l:List Ex},x ∈ tEs l->∃ y ∈ l,x=tE y
 | [],h=>by simp [tEs] at h
 | y :: r,h=>by
   simp only [tEs,List.mem_cons] at h
   rcases h with rfl | h
   . exact ⟨y,by simp,rfl⟩
   . obtain ⟨z,hz,e⟩:=zho h
     exact ⟨z,by simp [hz],e⟩
theorem zkl {op:Int} (h:exB op=true):op=1\/op=2\/op=3\/op=4\/op=5\/op=6\/(7<=op/\op<=15):=by
 unfold exB zhd at h
 split at h;· omega
 split at h;· omega
 split at h;· omega
 split at h;· omega
 split at h;· omega
 split at h;· omega
 split at h;· omega
 simp at h
theorem zsw {op:Int} (h:7<=op/\op<=15):zam [opTk op]:=by
 unfold opTk
 have hi:(op - 7).toNat<opTexts.length:=by show (op - 7).toNat<9;omega
 rw [List.getD_eq_getElem?_getD,List.getElem?_eq_getElem hi]
 have key:∀ t ∈ opTexts,(Lx.nameB t.data.toList||Lx.signL t.data.toList)=true:=by decide
 exact zby (key _ (List.getElem_mem hi))
theorem z0q {x:Ex} (h:exOk x):zam (tE x):=by
 induction h with
 | @mk op n m nm args h1 h2 h3 h4 h5 ih=>
   have ha:∀ y ∈ tEs args,zam y:=fun y hy=>by
    obtain ⟨z,hz,rfl⟩:=zho hy;exact ih z hz
   simp only [tE];unfold exTok
   rcases zkl h1 with rfl | rfl | rfl | rfl | rfl | rfl | hop
   . have:ze8 n=true:=h3
     unfold ze8 at this;simp at this;exact zz4 this.1 this.2
   . exact zby (by decide)
   . obtain ⟨a,b⟩:=zbs rfl h2
     exact zqb a b
   . obtain ⟨a,b⟩:=zbs rfl h2
     exact (zqb a b).append (.cons (zby (by decide)) ((zfs ha 0).append (zby (by decide))))
   . obtain ⟨a,b⟩:=zbs rfl h2
     exact (zqb a b).append (.cons (zby (by decide)) ((zii _ ha).append (zby (by decide))))
   . exact .cons (zby (by decide)) (zfs ha 0)
   . rw [if_neg (by omega),if_neg (by omega),if_neg (by omega),if_neg (by omega),if_neg (by omega),if_neg (by omega)]
     exact .cons (zby (by decide)) ((zfs ha 0).append (.cons (zsw hop) ((zfs ha 1).append (zby (by decide)))))
theorem z1r {l:List Ex} (h:∀ x ∈ l,exOk x):∀ y ∈ tEs l,zam y:=fun y hy=>by
 obtain ⟨z,hz,rfl⟩:=zho hy;exact z0q (h z hz)
theorem zl9 {op:Int} (h:stB op=true):op=1\/op=2\/op=3\/op=4\/op=5\/op=6\/op=7:=by
 unfold stB zje at h
 split at h;· omega
 split at h;· omega
 split at h;· omega
 split at h;· omega
 split at h;· omega
 split at h;· omega
 split at h;· omega
 simp at h
theorem zxw {x:List Tk} (h:zam x):zam (brT x):=.cons (zby (by decide)) (h.append (zby (by decide)))
theorem zvl:∀ {l:List St},(∀ s ∈ l,zam (tS s))->zam (tSs l)
 | [],_=>by unfold tSs;exact .nil
 | s :: r,h=>by
   unfold tSs;exact (h s (by simp)).append (zvl (fun x hx=>h x (by simp [hx])))
theorem zyq {op:Int} {m nm:ByteArray} {args:List Ex} (h1:stB op=true) (h2:zca (stS op) m nm=true) (h4:∀ a ∈ args,exOk a):zam (zb0 op m nm (tEs args)):=by
 have ha:=z1r h4;unfold zb0
 rcases zl9 h1 with rfl | rfl | rfl | rfl | rfl | rfl | rfl
 . obtain ⟨a,b⟩:=zbs rfl h2
   exact (zqb a b).append (.cons (zby (by decide)) (zfs ha 0))
 . obtain ⟨a,b⟩:=zbs rfl h2
   exact (zqb a b).append (.cons (zby (by decide)) ((zfs ha 0).append (.cons (zby (by decide)) (.cons (zby (by decide)) (zfs ha 1)))))
 . obtain ⟨a,b⟩:=zbs rfl h2
   exact (zqb a b).append (.cons (zby (by decide)) ((zii _ ha).append (zby (by decide))))
 . exact .cons (zby (by decide)) (zfs ha 0)
 . exact .cons (zby (by decide)) (zfs ha 0)
 . exact .cons (zby (by decide)) (zfs ha 0)
 . exact .cons (zby (by decide)) (zfs ha 0)
theorem z1s {s:St} (h:stOk s):zam (tS s):=by
 induction h with
 | @mk op m nm args body other h1 h2 h3 h4 h5 h6 h7 h8 ih1 ih2=>
   have ha:=z1r h4;have hb:=zxw (zvl ih1);have ho:=zxw (zvl ih2);simp only [tS];unfold zbv;split
   . refine .cons (zby (by decide)) ((zfs ha 0).append (hb.append ?_))
     split
     . exact .nil
     . exact .cons (zby (by decide)) ho
   split
   . exact .cons (zby (by decide)) ((zfs ha 0).append hb)
   . exact (zyq h1 h2 h4).append (zby (by decide))
theorem zjb {l:List St} (h:∀ s ∈ l,stOk s):zam (tSs l):=zvl (fun s hs=>z1s (h s hs))
end Go.Proofs.YtcekpobmbmnplaaGreatDoor
