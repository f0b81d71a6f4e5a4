import Derived.Test.YtndkhgakfodldaaGreatDoorLe
import Derived.Test.YtndkhgakfodldaaGreatDoorId
import Derived.Test.YtndkhgakfodldaaGreatDoorMxStp
set_option maxRecDepth 100000
set_option linter.unusedSectionVars false
set_option linter.unusedSimpArgs false
set_option linter.unusedVariables false
namespace Go.Proofs.YtndkhgakfodldaaGreatDoor
open Go.RowKit Go.Maps Go.Sort Go.WideMaps
theorem AP {w:World} {a:OA} {l:List dP} (h:nS w a l):∃ y,kY w a l y:=by
 have b3:∀ i:Nat,∃ v:Value,∀ V:i<l.length,∃ b C a4 ad a5 bi ax b4 aG bx,a=some (dj b C)/\b<w.heap.size/\w.cell? ⟨b,C+i*7,none⟩=some (.string l[i].name)/\w.cell? ⟨b,C+i*7+1,none⟩=some (.slice a4 l[i].uses.length ad)/\w.cell? ⟨b,C+i*7+2,none⟩=some (di l[i].data)/\w.cell? ⟨b,C+i*7+3,none⟩=some (.slice a5 l[i].code.length bi)/\w.cell? ⟨b,C+i*7+4,none⟩=some (.slice ax l[i].fixes.length b4)/\w.cell? ⟨b,C+i*7+5,none⟩=some (.slice aG l[i].entries.length bx)/\w.cell? ⟨b,C+i*7+6,none⟩=some (di l[i].main)/\i1 w l[i] a4 a5 ax aG/\l[i].uses.length<=ad/\v = .slice aG l[i].entries.length bx:=fun i=>by
  by_cases V:i<l.length
  . obtain ⟨b,C,a4,ad,a5,bi,ax,b4,aG,bx,a7,b6,W⟩:=h.ob i V
    exact ⟨.slice aG l[i].entries.length bx,fun _=>⟨b,C,a4,ad,a5,bi,ax,b4,aG,bx,a7,b6.lt,b6.c0,b6.c1,b6.c2,b6.c3,b6.c4,b6.c5,b6.c6,b6.ov,W,rfl⟩⟩
  . exact ⟨.bool false,fun h=>absurd h V⟩
 obtain ⟨y,d⟩:=Classical.axiomOfChoice b3;exact ⟨y,h.1.bound,fun i V=>d i V⟩
def iR (i:eK):Mx.Mc.Ins:=⟨i.op,i.a,i.b⟩
def l1:List eK:=match kc [pS,oX] with | .ok (an,_)=>an | .error _=>[]
theorem Gm:kc [pS,oX] = .ok (l1,5):=by kernel_rfl
theorem Gn:kB [pS,oX]=0:=by kernel_rfl
theorem Gp:kc [oX] = .error 9:=by kernel_rfl
theorem Gq:l1[0]? = some ⟨13,22,0⟩:=by kernel_rfl
theorem Gr:(l1[2]?).map eK.op=some 20:=by kernel_rfl
theorem Gs:l1.length<=2048/\3<=l1.length:=⟨Nat.le_of_ble_eq_true (by kernel_rfl),Nat.le_of_ble_eq_true (by kernel_rfl)⟩
theorem Gt:Mx.ansR (l1.map iR) 5 [1] 9 999=⟨0,[6,7],[6,0,6,0,0],6,(Mx.ansR (l1.map iR) 5 [1] 9 999).steps,0⟩:=by kernel_rfl
theorem Gu:l1.all (fun g=>(decide (-1000000000<=g.a)&&decide (g.a<=1099511627775))&&(decide (-1000000000<=g.b)&&decide (g.b<=1099511627775)))=true:=by kernel_rfl
end Go.Proofs.YtndkhgakfodldaaGreatDoor

namespace Go.Proofs.YtndkhgakfodldaaGreatDoor
open Go.RowKit
variable {i j u:Nat}
def ns (l:List dP) (o:dP) (x:ey):eK:=if x.k=0 then x.i else jM (jk x.k x.i.a ((l.length:Int)+1+hx (l.take (fH l o x.m))) (g9 (l.take (fH l o x.m))) (kA l (fH l o x.m))) x.i
theorem Gv {a A B:List ey} {x:ey} (h:a=A++x :: B) (N:¬ x.k=0):(gV 0 a)[(gV 0 A).length]? = some ⟨A.length,x.k,x.m⟩:=by
 subst h;rw [tG,fY,lC (dA _),xD];simp [gV,N]
theorem Gw (l:List dP) (o:dP) (a:List ey) (W:o.code=a.map ey.i) (Y:o.fixes=gV 0 a):gO l o o.fixes.length=a.map (ns l o):=by
 have A:∀ n,n<=a.length->gO l o (gV 0 (a.take n)).length=(a.take n).map (ns l o)++(a.drop n).map ey.i:=by
  intro n
  induction n with
  | zero=>intro _;simp [gV,gO,W]
  | succ n ay=>
    intro Z;have ay:=ay N7
    have b:n<a.length:=N7
    have ax:a.take (n+1)=a.take n++[a[n]]:=gn b;have hd:a.drop n=a[n] :: a.drop (n+1):=qw b
    have X:(a.take n).length=n:=by rw [jE];omega
    rw [hd,md] at ay;rw [ax,tG,X,fY,j2,eM]
    by_cases N:a[n].k=0
    . have e:gV n [a[n]]=[]:=by simp [gV,N]
      rw [e,pA,gQ,ay];simp [ns,N]
    . have e:gV n [a[n]]=[⟨n,a[n].k,a[n].m⟩]:=by simp [gV,N]
      have bu:o.fixes[(gV 0 (a.take n)).length]? = some ⟨n,a[n].k,a[n].m⟩:=by
       have F:=Gv (A:=a.take n) (x:=a[n]) (B:=a.drop (n+1)) (by rw [← hd,oC]) N;rw [X] at F;rw [Y];exact F
      obtain ⟨a2,hfe⟩:=pu.1 bu;rw [e,show (gV 0 (a.take n)).length+[(⟨n,a[n].k,a[n].m⟩:gd)].length=(gV 0 (a.take n)).length+1 from rfl,uc l o a2,hfe,ay]
      have a7:jy o (n:Int)=a[n].i.a:=by
       have aV:n<o.code.length:=by rw [W,fM];exact b
       rw [t6 aV];simp [W]
      have a1:=yS (jM (nj l o ⟨n,a[n].k,a[n].m⟩)) ((a.take n).map (ns l o)) a[n].i ((a.drop (n+1)).map ey.i);rw [fM,X] at a1;show List.modify _ (n:Int).toNat _=_;rw [ir,a1]
      have ak:jM (nj l o ⟨n,a[n].k,a[n].m⟩) a[n].i=ns l o a[n]:=by
       unfold ns nj;rw [if_neg N];simp only [a7]
      rw [ak];simp
 have h:=A a.length (dA _);rw [gu,List.drop_length,qF,qD] at h;rw [Y];exact h
def oj (a:List dP) (i:Nat):Nat:=a.length+1+((a.take i).map (fun aj=>aj.code.length)).sum
theorem uk (a:List dP) (i:Nat):(oj a i:Int)=a.length+1+hx (a.take i):=by
 have h:∀ l:List dP,(((l.map (fun aj=>aj.code.length)).sum:Nat):Int)=hx l:=by
  intro l
  induction l with
  | nil=>rfl
  | cons x r ay=>simp only [md,xC,hx] at ay ⊢;omega
 unfold oj;have:=h (a.take i);omega
theorem AQ (l:List dP) (i:Nat):∀ n,i+n<=l.length->∃ r,fX l (i+n)=fX l i++r
 | 0,_=>⟨[],Ob⟩
 | n+1,h=>by
   obtain ⟨r,Q⟩:=AQ l i n N7;exact ⟨r++gO l l[i+n] l[i+n].fixes.length,by rw [← ie,rr l N7,Q,oE]⟩
theorem Gx {l:List dP} (V:i<l.length) (a2:j<l[i].code.length):(fX l l.length)[oj l i+j]? = (gO l l[i] l[i].fixes.length)[j]?:=by
 obtain ⟨r,Q⟩:=AQ l (i+1) (l.length - (i+1)) N7;rw [show i+1+(l.length - (i+1))=l.length by omega,rr l V] at Q
 have X:(fX l i).length=oj l i:=by
  have F:=ug l i N7;have J:=uk l i;omega
 rw [Q,oE,lC N7,X,xj,kh (by rw [og];exact a2)]
section
variable {l:List dN} (aO:li l=true) (aw:nO l)
theorem mJ (l:List dN) (aL:u<l.length):(l.map eg)[u]'(by rw [fM];exact aL)=eg l[u]:=Ob
include aw in
theorem wM:(hY (l.map eg)).Nodup:=by
 unfold hY;rw [List.Nodup,List.pairwise_iff_getElem];intro i j V a2 hij e;simp only [fM] at V a2;simp only [mM] at e;have bq:l[i].name=l[j].name:=ByteArray.ext (Array.toList_inj.1 e);have:=aw i j V a2 bq;omega
include aO aw in
theorem Gy (q:Nat) (aL:u<l.length) (m:Int) (ab:0<=m) (F:m<=l[u].uses.length):fH (l.map eg) (eg l[u]) m=fT (fJ l q) u m/\fT (fJ l q) u m<l.length:=by
 obtain ⟨i,V,a9,au,bn,aH,k5⟩:=sI aO aw aL m ab F
 have aj:fT (fJ l q) u m=i:=by
  unfold fT fJ;rw [fV (l:=fq l),ew a9,gE,fV,ew au,gE,bn]
 rw [aj];refine ⟨?_,V⟩
 have a:u<(l.map eg).length:=by rw [fM];exact aL
 have d:i<(l.map eg).length:=by rw [fM];exact V
 have B:=wM aw
 by_cases a1:m=0
 . rw [aH a1,a1,← mJ l aL]
   unfold fH mF;rw [if_pos rfl,rp B a]
   rfl
 . have Y:=k5 N7
   have N:(m - 1).toNat<l[u].uses.length:=N7
   have bF:mF (eg l[u]) m=l[i].name:=by
    unfold mF;rw [if_neg a1];show l[u].uses.getD (m - 1).toNat _=_;rw [fV,ew N,gE];obtain ⟨O,z,hij,X,C⟩:=qM aO aw aL (eb N)
    obtain ⟨y,hi3,U,aa⟩:=yp l[u].uses[(m - 1).toNat] (fe (l.take (u+1))) (by
     obtain ⟨bd,bs⟩:=LP _ _ _ X;have:=vD l.length aO u aL aL _ (eb N);rw [qL l u aL]
     exact rN _ this)
    rw [X] at U
    have bq:O=y:=by have:=eX U;omega
    subst bq
    have bo:l[O].name=l[u].uses[(m - 1).toNat]:=by rw [← aa];simp only [fe,mM,sZ]
    have t:l[i]=l[O]:=by
     unfold g2 at Y;rw [oF,ew N,rO,C] at Y;exact (eX Y).symm
    rw [t,bo]
   unfold fH;have am:l[i].name=((l.map eg)[i]'d).name:=(congrArg dP.name (mJ l V)).symm;rw [bF,am,rp B d]
   rfl
end
def wN (l:List dN) (j i:Nat):Nat:=(hU ((l.getD j sm).parts.take i) 0).length
def rv (l:List dN) (u:Nat) (x:ey):Ins:=iR (ns (l.map eg) (eg (l.getD u sm)) x)
theorem AR {u:dN} (h:fN (e9 u)=false):(eg u).code=(jv u).map ey.i/\(eg u).fixes=gV 0 (jv u):=by
 obtain ⟨F,_⟩:=DR h;show (e9 u).code=_/\(e9 u).fixes=_;rw [F];simp [fk,kR]
theorem AU (l:List dN) (i:Nat):g9 ((l.map eg).take i)=fG (l.take i):=by
 have h:∀ l:List dN,g9 (l.map eg)=fG l:=by
  intro l;unfold g9 fG;rw [List.map_map]
  rfl
 rw [← List.map_take,h]
theorem rx {l:List dN} (a2:j<l.length):l.getD j sm=l[j]:=by
 rw [fV,ew a2];rfl
def iS (l:List dN):List Ins:=(fX (l.map eg) (l.map eg).length).map iR
def sO (l:List dN) (j:Nat):Nat:=oj (l.map eg) j
theorem Gz {ps:List e5} (V:i<ps.length):∃ B,hU ps 0=hU (ps.take i) 0++(lp ps[i] (hU (ps.take i) 0).length++B):=by
 refine ⟨hU (ps.drop (i+1)) ((hU (ps.take i) 0).length+(lp ps[i] (hU (ps.take i) 0).length).length),?_⟩
 have h:ps=ps.take i++(ps[i] :: ps.drop (i+1)):=by rw [← qw V,oC]
 have J:=DT (ps.take i) (ps[i] :: ps.drop (i+1)) 0;rw [← h,fY] at J;exact J
section
variable {l:List dN} (h:oc l) (ak:∀ u ∈ l,fN (e9 u)=false)
include ak in
theorem AV (a2:j<l.length):i6 (iS l) (sO l j) (rv l j) 0 (jv l[j]):=fun k N=>by
 have a:j<(l.map eg).length:=by rw [fM];exact a2
 obtain ⟨aJ,aI⟩:=AR (ak _ (eb a2));have ap:=mJ l a2
 have b1:k<((l.map eg)[j]'a).code.length:=by rw [ap,aJ,fM];exact N
 have F:=Gx a b1;rw [ap,Gw (l.map eg) (eg l[j]) (jv l[j]) aJ aI,oF,ew N] at F;unfold iS;rw [gQ,oF];show Option.map iR (fX (l.map eg) (l.map eg).length)[oj (l.map eg) j+k]? = _;rw [F];unfold rv;rw [rx a2]
 rfl
include h in
theorem GA (aL:u<l.length):fH (l.map eg) (eg l[u]) 0=u:=by
 have a:u<(l.map eg).length:=by rw [fM];exact aL
 have B:=wM h.n;rw [← mJ l aL];unfold fH mF;rw [if_pos rfl,rp B a]
 rfl
include h in
theorem wO (q:Nat) {m:Int} (ab:0<=m) (F:u<(fq l).length) (J:m.toNat<(fq l)[u].length):∃ aL:u<l.length,fH (l.map eg) (eg l[u]) m=fT (fJ l q) u m/\fT (fJ l q) u m<l.length:=by
 have aL:u<l.length:=by rw [n9] at F;exact F
 refine ⟨aL,Gy h.a h.n q aL m ab ?_⟩;rw [zY aL F] at J
 have X:(m4 l u l[u]).length=l[u].uses.length+1:=by simp [m4]
 omega
theorem GB (q:Nat) (h:oc l) (ak:∀ u ∈ l,fN (e9 u)=false) (al:∀ u ∈ l,gb u=true) (b1:(iS l).length<=2048):sC (fJ l q) (iS l) (sO l) (rv l) (wN l) (ku l).toNat where
 hp:=fun u T a b=>rfl
 hj:=fun u aL T a=>by
  have aL:u<l.length:=aL;unfold rv ns;rw [rx aL,if_neg (by show ¬ (1:Int)=0;decide)];show iR (jM (jk 1 (a:Int) (((l.map eg).length:Int)+1+hx ((l.map eg).take (fH (l.map eg) (eg l[u]) 0))) _ _) _)=_;rw [GA h aL,← uk];unfold jk;rw [if_neg N9,if_neg N9];show Mx.Mc.Ins.mk T ((oj (l.map eg) u:Int)+(a:Int)) 0=Mx.Mc.Ins.mk T _ 0;unfold sO;rw [xx]
 hd:=fun u T m a n b b6=>by
  obtain ⟨ab,a7,F,J,U,aa,aB⟩:=b6;obtain ⟨aL,aJ,aI⟩:=wO h q ab F J;unfold rv ns;rw [rx aL,if_neg (by show ¬ (3:Int)=0;decide)];show iR (jM (jk 3 a _ (g9 ((l.map eg).take (fH (l.map eg) (eg l[u]) m))) _) _)=_;rw [aJ,AU];unfold jk;rw [if_neg N9,if_pos rfl];show Mx.Mc.Ins.mk T (fG (l.take (fT (fJ l q) u m))+a) b=Mx.Mc.Ins.mk T (e8 (fJ l q) u m a) b;unfold e8
  congr 2
  have bq:fT (fJ l q) u m<(hi l).length:=by rw [oa];exact aI
  show _=(hi l).getD _ 0;rw [fV,ew bq,gE,wv]
 hc:=fun u k m a bG=>by
  obtain ⟨ab,a7,F,J,U,aa,aB⟩:=bG;have F:u<(fq l).length:=F;have J:m.toNat<(fq l)[u].length:=J;obtain ⟨aL,aJ,aI⟩:=wO h q ab F J
  have aj:fT (fJ l q) u m=(fq l)[u][m.toNat]:=by
   unfold fT;show ((fq l).getD u []).getD m.toNat 0=_;rw [fV (l:=fq l),ew F,gE,fV,ew J,gE]
  have hp:a.toNat<l[fT (fJ l q) u m].parts.length:=by simp only [aj];exact aa
  have c:fT (fJ l q) u m<(l.map eg).length:=by rw [fM];exact aI
  unfold rv ns;rw [rx aL,if_neg (by show ¬ (2:Int)=0;decide)];show iR (jM (jk 2 a (((l.map eg).length:Int)+1+hx ((l.map eg).take (fH (l.map eg) (eg l[u]) m))) _ (kA (l.map eg) (fH (l.map eg) (eg l[u]) m))) _)=_;rw [aJ,← uk,qi c,mJ l aI];unfold jk;rw [if_pos rfl];show Mx.Mc.Ins.mk 13 ((oj (l.map eg) (fT (fJ l q) u m):Int)+(pZ l[fT (fJ l q) u m].parts).getD a.toNat 0) 0=_;rw [fV,Nj (ak _ (eb aI)) hp,gE];unfold wN sO;rw [rx aI,xx]
 prt:=fun j hj i V=>by
  have hj:j<l.length:=hj;have V:i<l[j].parts.length:=V;obtain ⟨B,aF⟩:=Gz V;have hc:=(AV ak hj).app.1;rw [aF] at hc;have J:=hc.app.2.app.1;rw [fY] at J;unfold wN;rw [rx hj];exact J
 pr3:=fun j hj D hp=>by
  have hj:j<l.length:=hj;have F:=al l[j] (eb hj);unfold gb at F;simp only [dO] at F;have J:=e1.1 F.2.1 D hp;unfold iG at J;simp only [dO,decide_eq_true_eq] at J;omega
 ok:=h.u q
 few:=by
  have F:=h.s;show (fG l).toNat<=512;omega
 len:=b1
end
section
variable {l:List dN} (h:oc l) (ak:∀ u ∈ l,fN (e9 u)=false) (al:∀ u ∈ l,gb u=true) (b1:(iS l).length<=2048) (q:Nat)
include ak in
theorem GC (a2:j<l.length):(iS l)[j]? = some ⟨13,((sO l j+(hU l[j].parts 0).length:Nat):Int),0⟩:=by
 have a:j<(l.map eg).length:=by rw [fM];exact a2
 unfold iS fX;rw [oF,kh (by rw [eM,sJ];omega),kh (by rw [sJ];exact a)];unfold jT;rw [oF,List.getElem?_range a,rO,t8 a,rO,mJ l a2,← uk];show some (Mx.Mc.Ins.mk 13 ((oj (l.map eg) j:Int)+((f7 l[j].parts).code.length:Int)) 0)=_;rw [(DR (ak _ (eb a2))).2,xx]
 rfl
theorem GD:(iS l)[l.length]? = some ⟨20,0,0⟩:=by
 unfold iS fX
 have e:(jT (l.map eg) (l.map eg).length).length=l.length:=by rw [sJ,fM]
 rw [oF,kh (by rw [eM,e];simp),lC N7,e,xD]
 rfl
include h ak al b1 in
theorem AW (bk:Int):∀ (k i:Nat) (G:List Int) (o:Sw),i+k=l.length->G.length<=i->o.data.length=(ku l).toNat->o.calls=0->o.ticks<=q->
 ∃ b,∀ R,ez (iS l) q (em i G [] [] bk o R) k o (jw (lv (fJ l q) q).ent (((List.range l.length).zip l).drop i) o) (fun _ n R=>em l.length b [] [] bk n R)
 | 0,i,G,o,V,_,_,_,ax=>by
   refine ⟨G,fun R=>?_⟩;rw [rM Of,show i=l.length by omega];exact ez.ok ax rfl
 | k + 1,i,G,o,V,a8,hd,bP,ax=>by
   have aj:i<l.length:=N7
   have Y:=h.f;have aQ:=GB q h ak al b1;have aG:=(zI aQ q).1;have W:=(AV ak aj).app.2;rw [fY] at W;have aP:=(h.u q i aj).1
   have a3:=fun R=>aG i ⟨0,0,l[i].main⟩ (hU l[i].parts 0).length i [] G [] [] bk o R aj W (mN 0) (mN 0) (by show (0:Int)+0<=16;decide) aP (GC ak aj) rfl ⟨hd,bP.symm,N7,N7,ax,by show q+1<=o.ticks+(q+1);omega⟩
   have b2:((List.range l.length).zip l).drop i=(i,l[i]) :: ((List.range l.length).zip l).drop (i+1):=by
    rw [qw Of]
    congr 1
    simp
   rw [b2];unfold jw;have c:hh [] ((0:Int)+0)=[]:=rfl;simp only [qD,c] at a3
   cases Q:(lv (fJ l q) q).ent i l[i].main [] o with
   | stop e n=>
     refine ⟨[],fun R=>?_⟩;obtain ⟨m,a1,F⟩:=a3 R;rw [Q] at a1 F;exact ⟨m,by show m+2048*o.ticks<=k+1+2048*n.ticks;have a1:m+2048*o.ticks<=1+2048*n.ticks:=a1;omega,F⟩
   | ok v n=>
     obtain ⟨m,_,F⟩:=a3 0;rw [Q] at F;obtain ⟨_,N⟩:=F;obtain ⟨b,ay⟩:=AW bk k (i+1) (G++[v]) n N7 Of (N.dl.trans hd) (N.cl.trans bP) N.lm;refine ⟨b,fun R=>?_⟩;have r:=a3 R;rw [Q] at r;refine (r.bind (b':=k) (fun _ _ _=>rfl) (fun a b7 D e _=>?_)).mono N7
     injection e with aJ aI
     subst aJ aI;exact ay D
include h ak al b1 in
theorem GE (X:q<=2000) (g:List Int):∃ a9,Mx.Mc.run ⟨iS l,q,134217728⟩ (134217728+1) (Mx.startS (ku l).toNat g)=a9/\a9.en=(ik l g q).res.end_/\a9.out=(ik l g q).res.out/\a9.data=(ik l g q).res.data/\a9.ticks=(ik l g q).res.ticks:=by
 obtain ⟨b,aE⟩:=AW h ak al b1 q 0 l.length 0 [] (jP l g) N7 (dA _) (by simp [jP]) rfl (dY _);have aE:=aE 0;rw [List.drop_zero] at aE;have Y:=h.f;have aq:=(Np l g (xo q)).1
 have A:∃ m a9,m<=2048*q+5/\jR (iS l) q m (Mx.startS (ku l).toNat g) = .stop a9/\a9.en=(ik l g q).res.end_/\a9.out=(ik l g q).res.out/\a9.data=(ik l g q).res.data/\a9.ticks=(ik l g q).res.ticks:=by
  obtain ⟨m,a1,Q⟩:=aE;have bN:jw (lv (fJ l q) q).ent ((List.range l.length).zip l) (jP l g)=ik l g q:=rfl;rw [bN] at a1 Q;have a1:m+2048*0<=l.length+2048*(ik l g q).st.ticks:=a1
  cases E:ik l g q with
  | stop e n=>
    rw [E] at a1 Q aq;obtain ⟨a9,F,J⟩:=Q;have U:n.ticks<=q:=aq;simp only [Rr.st] at a1;exact ⟨m,a9,N7,F,J⟩
  | ok a n=>
    rw [E] at a1 Q aq;obtain ⟨F,N⟩:=Q;have U:n.ticks<=q:=aq;simp only [Rr.st] at a1;obtain ⟨a9,aa,aB⟩:=EN (C:=iS l) (mt:=q) (G:=b) (gs:=[]) (lo:=[]) (bk:=0) (s:=n) (q:=0+m) GD;refine ⟨m+1,a9,N7,?_,aB⟩;rw [v8];have bj:jR (iS l) q m (Mx.startS (ku l).toNat g) = .ok () (em l.length b [] [] 0 n (0+m)):=F;rw [bj];show (Mx.Mc.core (iS l) q _).bind _=_;rw [aa]
    rfl
 obtain ⟨m,a9,F,J,U⟩:=A;refine ⟨_,rfl,?_⟩;have c:=zo ⟨iS l,q,134217728⟩ m (134217729 - m) (Mx.startS (ku l).toNat g) (by show (0:Int)+m<=134217728;omega);rw [show m+(134217729 - m)=134217728+1 by omega] at c;rw [c];show (match jR (iS l) q m _ with | .stop n=>n | .ok _ n=>_).en=_/\_;rw [J];exact U
end
end Go.Proofs.YtndkhgakfodldaaGreatDoor

namespace Go.Proofs.YtndkhgakfodldaaGreatDoor
open Go.RowKit Go.Maps Go.Sort Go.WideMaps
variable {B q g i n size:Nat} {e:TypeId} {l:List dP} {v:Value} {w G:World} {ao:List Value}
structure gt where
 o:dP
 x1:OA
 y1:Nat
 x3:OA
 y3:Nat
 x4:OA
 y4:Nat
 x5:OA
 y5:Nat
def gt.vs (z:gt):List Value:=[.string z.o.name,.slice z.x1 z.o.uses.length z.y1,di z.o.data,.slice z.x3 z.o.code.length z.y3,.slice z.x4 z.o.fixes.length z.y4,.slice z.x5 z.o.entries.length z.y5,di z.o.main]
structure gt.Ok (w:World) (v:Value) (z:gt):Prop where
 r1:w.ownsRow 0 9 1 (.slice z.x1 z.o.uses.length z.y1) z.o.uses.length (strV z.o.uses)
 r3:w.ownsRow 0 69 3 (.slice z.x3 z.o.code.length z.y3) z.o.code.length (fw z.o.code)
 r4:w.ownsRow 0 67 3 (.slice z.x4 z.o.fixes.length z.y4) z.o.fixes.length (m3 z.o.fixes)
 r5:w.ownsRow 0 3 1 (.slice z.x5 z.o.entries.length z.y5) z.o.entries.length (intV z.o.entries)
 n1:∀ k,(Value.slice z.x1 z.o.uses.length z.y1).ownBlock=some k->v.ownBlock≠some k
 n3:∀ k,(Value.slice z.x3 z.o.code.length z.y3).ownBlock=some k->v.ownBlock≠some k
 n4:∀ k,(Value.slice z.x4 z.o.fixes.length z.y4).ownBlock=some k->v.ownBlock≠some k
 n5:∀ k,(Value.slice z.x5 z.o.entries.length z.y5).ownBlock=some k->v.ownBlock≠some k
theorem ul {B':Nat} {e':TypeId} {sz:Nat} {u:Value} {m:Nat} {b:List Value} (h:qV w G B e size v n g q ao) (Q:w.ownsRow B' e' sz u m b) (Z:∀ k,u.ownBlock=some k->v.ownBlock≠some k) :
 G.ownsRow B' e' sz u m b/\∀ k,u.ownBlock=some k->(Value.slice (some (dj g 0)) (n+1) q).ownBlock≠some k:=by
 refine ⟨iZ Q fun k N=>?_,fun k N e=>?_⟩
 . have S:=qx (Q.lt k N).2
   rw [h.old k _ S (Z k N),S]
 . have F:g=k:=eX e
   have J:=(Q.lt k N).2
   rcases h.at_ with U | U
   . exact Z k N (by rw [U,F])
   . omega
theorem gt.Ok.onto {z:gt} (h:z.Ok w v) (ap:qV w G B e size v n g q ao):z.Ok G (.slice (some (dj g 0)) (n+1) q):=by
 obtain ⟨E,bt⟩:=ul ap h.r1 h.n1;obtain ⟨a6,aR⟩:=ul ap h.r3 h.n3;obtain ⟨c,u⟩:=ul ap h.r4 h.n4;obtain ⟨V,p⟩:=ul ap h.r5 h.n5;exact ⟨E,a6,c,V,bt,aR,u,p⟩
theorem gt.Ok.later {z:gt} (h:z.Ok w v) (I:dm w G):z.Ok G v:=⟨ownsRow_later h.r1 I,ownsRow_later h.r3 I,ownsRow_later h.r4 I,ownsRow_later h.r5 I,h.n1,h.n3,h.n4,h.n5⟩
theorem gt.Ok.made {lo:Nat} {z:gt} (af:∀ k,v.ownBlock=some k->k<lo)
 (F:G.ownsRow lo 9 1 (.slice z.x1 z.o.uses.length z.y1) z.o.uses.length (strV z.o.uses)) (U:G.ownsRow lo 69 3 (.slice z.x3 z.o.code.length z.y3) z.o.code.length (fw z.o.code))
 (aa:G.ownsRow lo 67 3 (.slice z.x4 z.o.fixes.length z.y4) z.o.fixes.length (m3 z.o.fixes)) (aB:G.ownsRow lo 3 1 (.slice z.x5 z.o.entries.length z.y5) z.o.entries.length (intV z.o.entries)):z.Ok G v:=by
 have A:∀ {e:TypeId} {sz:Nat} {u:Value} {n:Nat} {b:List Value},G.ownsRow lo e sz u n b->∀ k,u.ownBlock=some k->v.ownBlock≠some k:=fun Q k N e=>by
  have:=(Q.lt k N).1;have:=af k e;omega
 exact ⟨rq F (dY _),rq U (dY _),rq aa (dY _),rq aB (dY _),A F,A U,A aa,A aB⟩
theorem gt.Ok.ov {u:dN} {z:gt} (h:z.Ok w v) (b2:z.o=eg u) (al:hf u gL gz=true) (b:u.name.size<=maxLen) (a8:∀ o ∈ u.uses,o.size<=maxLen):i1 w z.o z.x1 z.x3 z.x4 z.x5/\z.o.uses.length<=z.y1:=by
 obtain ⟨aj,a4,ad,a5,bi,ax,b4,aG,bx⟩:=z;obtain ⟨F,J,U,aa, -, -, -, -⟩:=h;simp only at b2 F J U aa ⊢;subst b2;obtain ⟨ay,b1,eU,bH,s5⟩:=yA al;have hd:=oU (kS al).2.2;have aL:=tN (kS al).2.2;have bj:=qW (kS al).2.2;have aY:(eg u).entries.length=u.parts.length:=nW ..;have bP:=vR al;refine ⟨⟨b,?_,qP (by show _<=u.data;omega) (by show u.data<=_;omega),?_,?_,?_,qP bH.1 bH.2⟩,Dh F⟩
 . exact pQ F (yy _ a8) (by simp [eH]) (by show (eH u.uses).length<=_;simp [eH];omega)
 . exact pQ J (yv _ ay) (by rw [vF];omega) (by rw [vF];show (e9 u).code.length*3<=_;omega)
 . exact pQ U (yw _ b1) (by rw [vG];omega) (by rw [vG];show (e9 u).fixes.length*3<=_;omega)
 . exact pQ aa (yx _ eU) Ql O1
theorem gt.one (z:gt):∀ u ∈ z.vs,u.oneCell'=true:=by simp [gt.vs];exact ⟨rfl,rfl,rfl,rfl,rfl,rfl,rfl⟩
def gt.ev (L:List gt) (i:Nat):Value:=match L[i]? with | some aX=>.slice aX.x5 aX.o.entries.length aX.y5 | none=>.bool false
theorem GF {a:OA} {L:List gt} (Q:w.ownsRow B 62 7 (.slice a L.length q) L.length (L.flatMap gt.vs)) (I:L.length<=4) (aP:∀ aX ∈ L,i1 w aX.o aX.x1 aX.x3 aX.x4 aX.x5/\aX.o.uses.length<=aX.y1):kY w a (L.map gt.o) (gt.ev L):=by
 refine ⟨P0,fun i V=>?_⟩
 have d:i<L.length:=by rw [fM] at V;exact V
 obtain ⟨g,f,e,_,ak⟩:=ud Q N7
 injection e with aJ _ _
 subst aJ
 have W:∀ k,k<7->∀ u,(L[i].vs)[k]? = some u->w.cell? ⟨g,0+i*7+k,none⟩=some u:=fun k N u aL=>by
  have:=Q.cells (g:=g) rfl (i*7+k) u ((ub gt.vs 7 (fun _=>rfl) L i d k N).trans aL);rw [ua,← ie] at this;exact this
 obtain ⟨F,J⟩:=aP L[i] (eb d)
 have ar:gt.ev L i = .slice L[i].x5 L[i].o.entries.length L[i].y5:=by unfold gt.ev;rw [ew d]
 simp only [mM];exact ⟨g,0,L[i].x1,L[i].y1,L[i].x3,L[i].y3,L[i].x4,L[i].y4,L[i].x5,L[i].y5,rfl,ak,W 0 N7 _ rfl,W 1 N7 _ rfl,W 2 N7 _ rfl,W 3 N7 _ rfl,W 4 N7 _ rfl,W 5 N7 _ rfl,W 6 N7 _ rfl,F,J,ar⟩
def pl (c:List eK):Prop:=∀ i ∈ c,hg i.a/\hg i.b
theorem AX {a b:List eK} (a7:pl a) (I:pl b):pl (a++b):=fun i V=>(jF.1 V).elim (a7 i) (I i)
theorem GG (V:i<l.length) (aw:od l) (aG:∀ aj ∈ l,fD aj=0) (b7:qh l) {j:Nat} (a2:j<l[i].fixes.length):hg (nj l l[i] l[i].fixes[j]):=by
 obtain ⟨bA,fr2,fr3,fr4,fr5,fr6,fr7⟩:=t2 (aG _ (eb V)) a2;have a1:=(wC b7 V fr6 fr7).2;have W:=ni aw _ (xF a1);have b8:=aw.1
 have ar:∀ k,0<=(kA l (fH l l[i] l[i].fixes[j].m)).getD k 0/\(kA l (fH l l[i] l[i].fixes[j].m)).getD k 0<=2048:=fun k=>by
  rw [qi a1,fV]
  cases N:l[fH l l[i] l[i].fixes[j].m].entries[k]? with
  | none=>exact ⟨mN _,N9⟩
  | some x=>exact At (aG _ (eb a1)) x (qz N)
 have ar:=ar (jy l[i] l[i].fixes[j].at_).toNat;unfold nj jk hg;split
 . omega
 . split<;>omega
theorem AY (V:i<l.length) (aw:od l) (aG:∀ aj ∈ l,fD aj=0) (b7:qh l) (W:pl l[i].code):∀ j,j<=l[i].fixes.length->pl (gO l l[i] j)
 | 0,_=>W
 | j+1,a2=>fun x S=>by
   have ay:=AY V aw aG b7 W j N7;rw [uc l l[i] (by omega:j<l[i].fixes.length)] at S;obtain ⟨k,N,rfl⟩:=kI S;rw [List.length_modify] at N;rw [List.getElem_modify];have F:=ay _ (eb N);split
   . exact ⟨GG V aw aG b7 N7,F.2⟩
   . exact F
theorem AZ (aw:od l) (aG:∀ aj ∈ l,fD aj=0) (b7:qh l) (W:∀ aj ∈ l,pl aj.code):∀ j,j<=l.length->pl (fX l j)
 | 0,_=>by
   rw [show fX l 0=jT l l.length++[⟨20,0,0⟩] by simp [fX]];refine AX (fun x S=>?_) (fun x S=>?_)
   . obtain ⟨k,N,rfl⟩:=ig.1 S
     have N:=s3.1 N;rw [t8 N];have F:=Ax (aG _ (eb N));have J:=aw.2 _ (eb N);have U:=ni aw k (xF N);have b8:=aw.1;exact ⟨by unfold hg;simp only;omega,by show -1000000000000000<=(0:Int)/\(0:Int)<=1000000000000000;decide⟩
   . rw [l8.1 S]
     exact ⟨by unfold hg;decide,by unfold hg;decide⟩
 | j+1,a2=>by
   rw [rr l (by omega:j<l.length)];exact AX (AZ aw aG b7 W j N7) (AY N7 aw aG b7 (W _ (eb N7)) _ (dA _))
end Go.Proofs.YtndkhgakfodldaaGreatDoor

namespace Go.Proofs.YtndkhgakfodldaaGreatDoor
open Go.RowKit
variable {L b:List ey} {H:Cx} {l:List dN} {nl sz u:Nat}
def ib (P:Int->Int->Prop) (L:List ey):Prop:=∀ x ∈ L,x.k=2->P x.m x.i.a
section
variable {P:Int->Int->Prop}
theorem iT:ib P []:=fun x S=>by cases S
theorem ic {a:List ey} (a7:ib P a) (I:ib P b):ib P (a++b):=fun x S=>(jF.1 S).elim (a7 x) (I x)
theorem sP {x:ey} (S:x.k=2->P x.m x.i.a) (I:ib P b):ib P (x :: b):=fun a3 a4=>by
 rcases kk.1 a4 with h | h
 . subst h;exact S
 . exact I a3 h
theorem jn (T a b:Int) (h:ib P L):ib P (eL T a b :: L):=sP (fun h=>by simp [eL] at h) h
theorem om (T:Int) (a:Nat) (h:ib P L):ib P (eN T a :: L):=sP (fun h=>by simp [eN] at h) h
theorem um (m T a b:Int) (h:ib P L):ib P (hu 3 m T a b :: L):=sP (fun h=>by simp [hu] at h) h
theorem uq {f:dB->Nat->List ey}:∀ {l:List dB},(∀ x ∈ l,∀ n,ib P (f x n))->∀ n,ib P (iL f l n)
 | [],_,_=>iT
 | x :: r,h,n=>ic (h x (fI ..) n) (uq (fun a3 a4=>h a3 (fh _ a4)) _)
theorem sQ {f:du->Nat->List ey}:∀ {l:List du},(∀ x ∈ l,∀ n,ib P (f x n))->∀ n,ib P (hT f l n)
 | [],_,_=>iT
 | x :: r,h,n=>ic (h x (fI ..) n) (sQ (fun a3 a4=>h a3 (fh _ a4)) _)
end
def nt (H:Cx) (u:Nat) (m a:Int):Prop:=∃ k,kW H u k m a
theorem sR:∀ (k:Nat) (x:dB),f8 H u nl sz k x->∀ n,ib (nt H u) (dW k x n)
 | 0,_,h,_=>h.elim
 | k + 1,x,h,n=>by
   have d:∀ i,i<x.args.length->(∀ a3 ∈ x.args,f8 H u nl sz k a3)->∀ n,ib (nt H u) (dW k (dq x.args i) n):=fun i V ap n=>sR k _ (ap _ (by rw [j7 _ _ V];exact eb _)) n
   rcases h with h | h | ⟨h,_⟩ | ⟨h,_⟩ | ⟨h,_,_,F,J⟩ | ⟨h,F,J⟩ | ⟨h,F,J⟩ | ⟨h,a5,F,J⟩
   . rw [dW,if_pos h];exact jn _ _ _ iT
   . rw [dW,if_neg N7,if_pos h];exact jn _ _ _ iT
   . rw [dW,if_neg N7,if_neg N7,if_pos h];exact jn _ _ _ iT
   . rw [dW,if_neg N7,if_neg N7,if_neg N7,if_pos h];exact um _ _ _ _ iT
   . rw [dW,if_neg N7,if_neg N7,if_neg N7,if_neg N7,if_pos h]
     exact ic (d 0 N7 J _) (um _ _ _ _ (jn _ _ _ iT))
   . rw [dW,if_neg N7,if_neg N7,if_neg N7,if_neg N7,if_neg N7,if_pos h]
     exact ic (uq (fun a3 a4 n=>sR k a3 (J a3 a4) n) _) (sP (fun _=>⟨_,F⟩) iT)
   . rw [dW,if_neg N7,if_neg N7,if_neg N7,if_neg N7,if_neg N7,if_neg N7,if_pos h]
     exact ic (d 0 N7 J _) (jn _ _ _ iT)
   . rw [dW,if_neg N7,if_neg N7,if_neg N7,if_neg N7,if_neg N7,if_neg N7,if_neg N7]
     split
     . exact ic (d 0 N7 J _) (om _ _ (ic (d 1 N7 J _) (jn _ _ _ (om _ _ (jn _ _ _ iT)))))
     . split
       . exact ic (d 0 N7 J _) (om _ _ (jn _ _ _ (om _ _ (ic (d 1 N7 J _) (jn _ _ _ iT)))))
       . exact ic (uq (fun a3 a4 n=>sR k a3 (J a3 a4) n) _) (jn _ _ _ iT)
theorem ur:∀ (k:Nat) (a:du),gM H u nl sz k a->∀ n,ib (nt H u) (e3 k a n)
 | 0,_,h,_=>h.elim
 | k + 1,a,h,n=>by
   obtain ⟨ab,h⟩:=h
   have d:∀ i,i<a.args.length->∀ n,ib (nt H u) (dW 6 (dq a.args i) n):=fun i V n=>sR 6 _ (ab _ (by rw [j7 _ _ V];exact eb _)) n
   rcases h with ⟨h,F,_⟩ | ⟨h,F,_⟩ | ⟨h,F⟩ | ⟨h,F,J,U⟩ | ⟨h,F,J⟩ | ⟨h,F⟩ | ⟨h,F⟩
   . rw [e3,if_pos h]
     refine ic (d 0 N7 _) ?_;split
     . exact jn _ _ _ iT
     . exact um _ _ _ _ iT
   . rw [e3,if_neg N7,if_pos h]
     exact ic (d 0 N7 _) (um _ _ _ _ (ic (d 1 N7 _) (jn _ _ _ iT)))
   . rw [e3,if_neg N7,if_neg N7,if_pos h]
     exact ic (uq (fun a3 a4 n=>sR 6 a3 (ab a3 a4) n) _) (sP (fun _=>⟨_,F⟩) (jn _ _ _ iT))
   . rw [e3,if_neg N7,if_neg N7,if_neg N7,if_pos h]
     have I:=fun n=>sQ (P:=nt H u) (fun a3 a4 n=>ur k a3 (J a3 a4) n) n
     have ap:=fun n=>sQ (P:=nt H u) (fun a3 a4 n=>ur k a3 (U a3 a4) n) n
     unfold qX;split
     . exact ic (d 0 N7 _) (om _ _ (I _))
     . exact ic (d 0 N7 _) (om _ _ (ic (I _) (om _ _ (ap _))))
   . rw [e3,if_neg N7,if_neg N7,if_neg N7,if_neg N7,if_pos h]
     exact ic (d 0 N7 _) (om _ _ (jn _ _ _ (ic (sQ (fun a3 a4 n=>ur k a3 (J a3 a4) n) _) (om _ _ iT))))
   . rw [e3,if_neg N7,if_neg N7,if_neg N7,if_neg N7,if_neg N7,if_pos h]
     exact ic (d 0 N7 _) (jn _ _ _ iT)
   . rw [e3,if_neg N7,if_neg N7,if_neg N7,if_neg N7,if_neg N7,if_neg N7,if_pos h]
     exact ic (d 0 N7 _) (jn _ _ _ iT)
theorem A0 {p:e5} (h:∀ a ∈ p.body,gM H u nl sz 6 a) (n:Nat):ib (nt H u) (lp p n):=jn _ _ _ (ic (sQ (fun a3 a4 n=>ur 6 a3 (h a3 a4) n) _) (jn _ _ _ (jn _ _ _ iT)))
theorem A1:∀ {l:List e5},(∀ D ∈ l,∀ n,ib (nt H u) (lp D n))->∀ n,ib (nt H u) (hU l n)
 | [],_,_=>iT
 | D :: r,h,n=>ic (h D (fI ..) n) (A1 (fun a3 a4=>h a3 (fh _ a4)) _)
theorem GH (h:oc l) (aL:u<l.length):ib (nt (fJ l 0) u) (jv l[u]):=by
 obtain ⟨F,J⟩:=h.u 0 u aL;exact ic (A1 (fun D aA n=>A0 (J D aA).2.2.2 n) _) (A0 (p:=⟨0,0,l[u].main⟩) F _)
theorem A2:∀ (L:List ey) (n:Nat) (f:gd),f ∈ gV n L->∃ j,∃ a2:j<L.length,f=⟨((n+j:Nat):Int),L[j].k,L[j].m⟩
 | [],n,f,h=>P3
 | x :: r,n,f,h=>by
   unfold gV at h
   have a:f ∈ gV (n+1) r->∃ j,∃ a2:j<(x :: r).length,f=⟨((n+j:Nat):Int),(x :: r)[j].k,(x :: r)[j].m⟩:=fun h=>by
    obtain ⟨j,a2,e⟩:=A2 r (n+1) f h;exact ⟨j+1,PU,by rw [e,show n+1+j=n+(j+1) by omega];rfl⟩
   split at h
   . exact a h
   . rcases kk.1 h with h | h
     . exact ⟨0,Ob,by rw [h];rfl⟩
     . exact a h
theorem ut (h:oc l) (ak:∀ u ∈ l,iy u = .ok (eg u)):kB (l.map eg)=0:=by
 have Z:=wM h.n;have b1:(l.map eg).length=l.length:=fM ..
 have C:∀ u ∈ l,fN (e9 u)=false:=fun u aL=>(pR (ak u aL)).2.2.2
 have F:mH (l.map eg)=0:=wD _ (fun i V=>by
  have d:i<l.length:=N7
  obtain ⟨_,a,b,an⟩:=pR (ak l[i] (eb d));rw [mJ l d]
  exact NE a b an)
 have J:pg (l.map eg)=true:=iN.2 (fun i V=>by
  have d:i<l.length:=N7
  unfold pe;rw [ew V,mJ l d];refine e1.2 (fun o a8=>?_);obtain ⟨O,z,hij,X,C⟩:=qM h.a h.n d a8
  obtain ⟨y,hi3,U,aa⟩:=yp o (fe (l.take (i+1))) (by
   have:=vD l.length h.a i d d o a8;rw [qL l i d]
   exact rN _ this)
  rw [X] at U
  have bq:O=y:=by have:=eX U;omega
  subst bq
  have bo:l[O].name=o:=by rw [← aa];simp only [fe,mM,sZ]
  have c:O<(l.map eg).length:=N7
  have t:((l.map eg)[O]'c).name=o:=(congrArg dP.name (mJ l z)).trans bo;have aB:=rp Z c;rw [t] at aB;unfold oe;rw [aB]
  exact decide_eq_true hij)
 have U:pi (l.map eg)=true:=iN.2 (fun i V=>by
  have d:i<l.length:=N7
  unfold ph;rw [ew V,mJ l d];refine iN.2 (fun j a2=>?_);unfold lX;rw [ew a2];obtain ⟨aJ,aI⟩:=AR (C l[i] (eb d));obtain ⟨D,aA,Y⟩:=A2 (jv l[i]) 0 _ (by rw [← aI];exact eb a2);show mG _ _ (eg l[i]).fixes[j]=true;rw [Y];unfold mG;simp only [fY,xm,sX,decide_eq_false_iff_not]
  by_cases N:(jv l[i])[D].k=2
  . right
    obtain ⟨k,bU,ga,bd,bs,bI,bM,bL⟩:=GH h d _ (eb aA) N;have bd:i<(fq l).length:=bd;have bs:(jv l[i])[D].m.toNat<(fq l)[i].length:=bs;obtain ⟨_,bB,bH⟩:=wO h 0 bU bd bs
    have aj:fT (fJ l 0) i (jv l[i])[D].m=(fq l)[i][(jv l[i])[D].m.toNat]:=by
     unfold fT;show ((fq l).getD i []).getD (jv l[i])[D].m.toNat 0=_;rw [fV (l:=fq l),ew bd,gE,fV,ew bs,gE]
    have e:fT (fJ l 0) i (jv l[i])[D].m<(l.map eg).length:=N7
    have a7:jy (eg l[i]) (D:Int)=(jv l[i])[D].i.a:=by
     have c1:D<(eg l[i]).code.length:=by rw [aJ,fM];exact aA
     rw [t6 c1];simp [aJ]
    rw [a7,bB,qi e,mJ l bH];have ar:(eg l[fT (fJ l 0) i (jv l[i])[D].m]).entries.length=l[fT (fJ l 0) i (jv l[i])[D].m].parts.length:=nW ..
    have f:(jv l[i])[D].i.a.toNat<l[fT (fJ l 0) i (jv l[i])[D].m].parts.length:=by simp only [aj];exact bM
    omega
  . left;exact N)
 have b2:=h.z;have Y:=h.f;unfold kB;rw [if_neg N7,if_neg (by rw [F];decide),if_neg (by simpa using Z),if_neg (by rw [J];decide),if_neg (by rw [U];decide)]
theorem GI (h:oc l) (ak:∀ u ∈ l,iy u = .ok (eg u)) {c:Int} (X:kc (l.map eg) = .error c):c=2:=by
 unfold kc at X;rw [if_neg (by rw [ut h ak];exact fun e=>e rfl)] at X
 split at X
 . injection X with X;exact X.symm
 . cases X
theorem A3 (h:oc l) (ak:∀ u ∈ l,iy u = .ok (eg u)) {f:List eK} {d:Int} (X:kc (l.map eg) = .ok (f,d)):f.map iR=iS l/\d=((ku l).toNat:Int)/\(iS l).length<=2048/\pl f:=by
 have Z:=ue (l:=l.map eg) (by rw [fM];exact h.f) (uh (ut h ak)).2.2.1;obtain ⟨_,_,bn,aH,k5,_⟩:=uh (ut h ak);unfold kc at X;rw [if_neg (by rw [ut h ak];exact fun e=>e rfl)] at X
 split at X
 . cases X
 . rename_i J
   injection X with X
   injection X with U aa
   subst U
   have hd:g9 (l.map eg)=fG l:=by
    have:=AU l l.length;rwa [gu,iq P0] at this
   have a8:=(ni Z (l.map eg).length (dA _)).2.2.1;rw [gu,hd] at a8;refine ⟨rfl,?_,by unfold iS;rw [fM];omega,AZ Z bn (wE aH k5) (fun aj ap=>?_) _ (dA _)⟩
   . rw [← aa,hd];show fG l=((fG l).toNat:Int);omega
   . obtain ⟨u,aL,rfl⟩:=ig.1 ap
     exact fun x S=>((yA (pR (ak u aL)).2.1).1 x S).2
end Go.Proofs.YtndkhgakfodldaaGreatDoor
