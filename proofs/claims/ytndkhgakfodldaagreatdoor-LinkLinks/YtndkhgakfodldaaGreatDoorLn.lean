import Derived.Test.YtndkhgakfodldaaGreatDoorLe
import Derived.Test.YtndkhgakfodldaaGreatDoorXe
set_option maxRecDepth 100000
set_option maxHeartbeats 12800000
set_option linter.unusedSimpArgs false
set_option linter.unusedVariables false
open Go.Proofs.Tryz
open List renaming length → Ln
namespace Go.Proofs.YtndkhgakfodldaaGreatDoor
open Go.RowKit Go.Maps Go.Sort Go.WideMaps
variable {B b Y I g j m n p:Nat} {c d v:Value} {cs:List fM} {e:TypeId} {l:List eO} {w r:World} {ae:List Value}
def v1:Prop:=∀ (o:eO) (E:OA) (T:Nat) (H:OA) (bc:Nat) (aj:OA) (b9:Nat) (al:OA) (b7:Nat) (w:World),jk w o E H aj al->
    ew 34 #[.agg #[.string o.name,.slice E (Ln o.uses) T,em o.data,.slice H (Ln o.code) bc,.slice aj (Ln o.fixes) b9,.slice al (Ln o.entries) b7,em o.main]] w fun e r=>e = .returned (em (gd o))/\et w r
theorem Eu:∀ b:List (L8),Fx.zgd b = !decide b.Nodup:=by
 apply Fx.zeq
 . rfl
 . intro l a aH
   rw [Fx.zin,aH]
   by_cases G:l.Nodup
   . by_cases J:a ∈ l
     . have:¬ (l++[a]).Nodup:=fun h=>by
        have:=(tZ.1 h).2.2 a J a (by simp);exact this rfl
       simp [G,J,this]
     . have:(l++[a]).Nodup:=tZ.2 ⟨G,by simp,fun q Q o z=>by
        have:o=a:=by simpa using z
        subst this;intro e;subst e
        exact J Q⟩
       simp [G,J,this]
   . have:¬ (l++[a]).Nodup:=fun h=>G (tZ.1 h).1
     simp [G,this]
def nJ (l:List eO):List ByteArray:=l.map eO.name
theorem Ev (l:List eO):Fx.zbi (nJ l)=hD l:=by unfold Fx.zbi nJ hD;rw [List.map_map];rfl
theorem Ew (l:List eO) (h:j<Ln l):nJ (l.take (j+1))=nJ (l.take j)++[l[j].name]:=by
 unfold nJ;rw [hI h,mq]
 rfl
theorem Ex {a:OA} {ae:List ByteArray} (h:qw w Y (.slice a (Ln ae) I) ae):Fx.zez w a ae:=by
 by_cases a3:Ln ae=0
 . exact Or.inl (ii a3)
 . obtain ⟨ad,f,e,a1⟩:=h.cell
   injection e with aw _ _
   subst aw;obtain ⟨V,ab,F,_⟩:=a1 0 (by omega);refine Or.inr ⟨V,0,ab,F,fun i X=>?_⟩;obtain ⟨bA,v,_,hcell⟩:=a1 i X;rw [ab] at v
   injection v with v
   injection v with v
   subst v;rw [hv];exact hcell
theorem str_one (s:ByteArray):∀ u ∈ (#[Value.string s]:Array Value).toList,u.oneCell'=true:=fun u aI=>by
 have:u = .string s:=by simpa using aI
 subst this
 rfl
theorem zJ (cD:v1) (l:List eO) (K:Nat->Value) (a:OA) (I:Nat) (w:World) (aQ:jM w a l K) (ay:Ln l<=I) :
 ew 44 #[.slice a (Ln l) I] w fun e r=>e = .returned (em (jx l))/\et w r:=by
 have bC:=aQ.bound;have aG:=hid aQ;have b8:=hid cD;clear aQ cD
 obtain ⟨O,W⟩:∃ O,O=jx l:=⟨_,rfl⟩
 rw [← W];unfold jx at W;have z:=hid W;clear W;go_enter func44,ntmps44
 by_cases a6:Ln l<1\/4<Ln l
 . have ae:Hid (O=2):=z.trans (if_pos a6)
   have aq:(decide (1<=(Ln l:Int))&&decide ((Ln l:Int)<=4))=false:=by
    rcases a6 with h | h
    . rw [decide_eq_false (by omega:¬ (1<=(Ln l:Int)))];rfl
    . rw [decide_eq_false (by omega:¬ ((Ln l:Int)<=4)),Bool.and_false]
   go_wp2_with (go_at_call 63;refine (p4 _ _ _ _).mono ?_;rintro e r ⟨rfl,rfl⟩;rw [aq])
   go_ret;exact ⟨by rw [ae.out];rfl,Below.refl _ _⟩
 have aZ:=hid (z.trans (if_neg a6))
 have a2:1<=Ln l/\Ln l<=4:=by omega
 have aq:(decide (1<=(Ln l:Int))&&decide ((Ln l:Int)<=4))=true:=by
  rw [decide_eq_true (by omega:1<=(Ln l:Int)),decide_eq_true (by omega:(Ln l:Int)<=4)];rfl
 clear a6 z
 go_wp2_with (go_at_call 63;refine (p4 _ _ _ _).mono ?_;rintro e r ⟨rfl,ah⟩;rw [aq,ah];clear ah)
 clear aq
 go_loopw [3,4,5] (fun v i _ wr=>∃ j:Nat,j<=Ln l/\i=em j/\(∀ k (h:k<Ln l),k<j->gd l[k]=0)/\qw wr w.heap.size v (nJ (l.take j))/\et w wr) (fun _ i _ _=>Ln l - (intOf i).toNat)
 case atStart=>exact ⟨0,eY _,rfl,fun k _ h=>absurd h (jU _),ko _ _ _ _,Below.refl _ _⟩
 case round =>
  obtain ⟨j,ac,rfl,aO,ba,F⟩:=hrel;have ar:=hid aO;have ad:=hid F;have bN:=F.size
  have cw:(nJ (l.take j)).length=j:=by unfold nJ;rw [qu,ky];omega
  unfold qw at ba;rw [cw] at ba;have cc:=hid ba;obtain ⟨cC,bV,rfl, -, -⟩:=im ba;clear aO ba
  by_cases a0:j<Ln l
  . obtain ⟨V,C,E,T,H,bc,aj,b9,al,b7,rfl,bz,bh,a9,a4,c3,am,aX,aR,aa, -, -⟩:=(aG.later F).get j a0
    have ao:=hid (b8 l[j] E T H bc aj b9 al b7 wr aa);have aU:=hid (Ew l a0);clear aa F;go_wp2_with fail;refine ao.mono ?_;rintro e w2 ⟨rfl,aB⟩;have aM:=hid (es ad aB);have bd:=(aB.cell (p:=⟨V,C+j*7,none⟩) bz).trans bh;have ab:=hid (ownsRow_later cc aB);have bl:=aB.size
    have da:V<w2.heap.size:=by omega
    clear aB ao bh a9 a4 c3 am aX aR
    by_cases aS:gd l[j]=0
    . have ai:Hid (∀ k (h:k<Ln l),k<j+1->gd l[k]=0):=fun k h N=>by
       by_cases ah:k=j
       . subst ah;exact aS
       . exact ar k h (by omega)
      rw [aS];clear aS;generalize l[j].name=x at *
      go_wp2_with (at_builtin;refine pL rfl (.tmp 29) (.tmp 35) 22 rfl w.heap.size 9 _ 1 16 Tryz.underlying22 Tryz.infoStr rfl (by decide) w2 (.slice cC j bV) j ((nJ (l.take j)).map .string) rfl ab #[.string x] _ rfl rfl rfl (str_one x) (by omega) (by decide) (by omega) _ rfl ?_;intro g bo eC ho3;have b:=hid ho3;have bE:=ho3.size;clear ho3)
      go_wp2_with fail;go_roundw
      case rel=>exact ⟨j+1,by omega,by go_num,ai,by unfold qw;rw [aU.out,gn,mq,cw];exact b.own,aM.trans b.below⟩
      case measure=>simp [intOf];omega
    . have ae:Hid (O=gd l[j]):=by
       have ah:=vG l j a0 (fun k N=>ar k (by omega) N) aS;show O=_;rw [aZ.out,if_pos (by rw [ah];exact aS),ah]
      generalize gd l[j]=z at *;go_wp2_with fail;go_ret;exact ⟨by rw [ae.out];rfl,aM⟩
  . obtain rfl : j=Ln l:=by omega
    rw [iA] at *
    have B:∀ o ∈ l,gd o=0:=fun o aa=>by
     obtain ⟨i,X,rfl⟩:=kx aa;exact ar i X X
    have aH:=hid B;have b3:=hid (aZ.trans (if_neg (by rw [vF l (fun i h=>ar.out i h h)];exact fun e=>e rfl)));have aJ:=hid (Fx.zr4 cC bV (nJ l) wr (Ex (by unfold qw;rw [cw];exact cc)) (by rw [cw];omega));rw [Ev,Eu,cw] at aJ;have c:=hid F;clear B aZ ar cc F;go_wp2_with fail;refine aJ.mono ?_;rintro e w2 ⟨rfl,aB⟩;have aM:=hid (es c aB);clear aB aJ c
    by_cases U:(hD l).Nodup
    rotate_left
    . have ae:Hid (O=6):=b3.trans (if_pos U)
      rw [decide_eq_false U];go_wp2_with fail;go_ret;exact ⟨by rw [ae.out];rfl,aM⟩
    have b4:=hid (b3.trans (if_neg (fun h=>h U)));have aF:=hid U;rw [decide_eq_true U];clear U b3;go_wp2_with fail
    go_loopw [6,7] (fun i _ wr=>∃ j:Nat,j<=Ln l/\i=em j/\(∀ k,k<j->k5 l k=true)/\et w2 wr) (fun i _ _=>Ln l - (intOf i).toNat)
    case atStart=>exact ⟨0,eY _,rfl,fun k h=>absurd h (jU _),Below.refl _ _⟩
    case round =>
     obtain ⟨j,ac,rfl,aO,F⟩:=hrel;have ar:=hid aO;have ad:=hid F;clear aO
     by_cases a0:j<Ln l
     . obtain ⟨V,C,E,T,H,bc,aj,b9,al,b7,rfl,bz, -,a9, -, -, -, -, -,aa, -, -⟩:=(aG.later (es aM F)).get j a0
       have bW:=hid aa.uses;have c1:=aa.uses.bound
       have n:Hid (k5 l j=l[j].uses.all (k4 l j)):=by show k5 l j=_;unfold k5;rw [gb a0]
       have b6:(j:Int)<=I:=by omega
       have D:(j:Int)<Ln l:=by omega
       have cg:=hid (aG.later (es aM F));clear aa F;generalize l[j]=q at *;go_wp2_with fail
       go_loopw [7] (fun k S=>∃ R d:Nat,R<=Ln q.uses/\k=em R/\(∀ y (h:y<Ln q.uses),y<R->k4 l j q.uses[y]=true)/\S=wr.drewN d) (fun k _=>Ln q.uses - (intOf k).toNat)
       case atStart=>exact ⟨0,0,eY _,rfl,fun y _ h=>absurd h (jU _),rfl⟩
       case round=>
        obtain ⟨S,rfl⟩:∃ q,q=wr:=⟨_,rfl⟩
        obtain ⟨R,d,Q,rfl,hallq,ez⟩:=hrel;have b2:=hid hallq
        have a1:et wr S:=by rw [ez];exact k7 _ _
        have aK:=hid ez;have aV:=hid a1;have bi:=(a1.cell (p:=⟨V,C+j*7+1,none⟩) bz).trans a9;have bl:=a1.size
        have da:V<S.heap.size:=by omega
        clear hallq ez
        by_cases bX:R<Ln q.uses
        . obtain ⟨aW,uo,rfl,bB,huc, -⟩:=(bW.later a1).str R bX
          have b5:=hid ((y7 aF ac q.uses[R]).1);have ao:=hid (fun s=>y6 l K (some (ep V C)) j I q.uses[R] (S.drewN s) (cg.later (es aV (k7 _ _))) ac);have Y:Hid (k4 l j q.uses[R]=decide (0<=kL l j q.uses[R])):=b5.out
          have p:Hid (∀ y (h:y<Ln q.uses),y<R+1->y≠R->k4 l j q.uses[y]=true):=fun y h G J=>b2 y h (by omega)
          have bg:(R:Int)<Ln q.uses:=by omega
          clear a1
          by_cases a7:kL l j q.uses[R]<0
          . have ae:Hid (O=9):=b4.trans (if_pos (lu (i:=j) a0 (by rw [n.out,rl];exact ⟨q.uses[R],fO _,by rw [Y.out];simp;omega⟩)))
            generalize kL l j q.uses[R]=z at *;generalize q.uses[R]=u at *;go_wp2_with fail
            go_quiet ((go_at_call 108;exact Calls.quiet_of (ao _)))
            go_wp2_with fail;go_ret;exact ⟨by rw [ae.out];rfl,es (es aM ad) (es aV (k7 _ _))⟩
          . have P:Hid (∀ y (h:y<Ln q.uses),y<R+1->k4 l j q.uses[y]=true):=fun y h G=>by
             by_cases ah:y=R
             . subst ah;rw [Y.out];exact decide_eq_true (by omega)
             . exact p y h G ah
            generalize kL l j q.uses[R]=z at *;generalize q.uses[R]=u at *;go_wp2_with fail
            go_quiet ((go_at_call 108;exact Calls.quiet_of (ao _)))
            go_wp2_with fail;go_roundw
            case rel=>exact ⟨R+1,_,by omega,by go_num,P,by rw [aK.out,vP]⟩
            case measure=>simp [intOf];omega
        . obtain rfl:R=Ln q.uses:=by omega
          have P:Hid (k5 l j=true):=by
           show k5 l j=true;rw [n.out,hJ];intro u aI;obtain ⟨y,az,rfl⟩:=kx aI;exact b2 y az az
          clear a1;go_wp2_with fail;go_roundw
          case rel=>exact ⟨j+1,by omega,by go_num,lw ar P,es ad aV⟩
          case measure=>simp [intOf];omega
     . obtain rfl:j=Ln l:=by omega
       have cz:Hid (ny l=true):=iO.2 ar;have bu:=hid (b4.trans (if_neg (by rw [cz.out];decide)));have aP:=hid (es aM F);clear b4 ar F;go_wp2_with fail
       obtain ⟨eJ,rfl⟩:∃ q,q=wr:=⟨_,rfl⟩
       go_loopw [8,9,10] (fun i _ _ wr=>∃ j:Nat,j<=Ln l/\i=em j/\(∀ k,k<j->mc l k=true)/\et w wr) (fun i _ _ _=>Ln l - (intOf i).toNat)
       case atStart=>exact ⟨0,eY _,rfl,fun k h=>absurd h (jU _),aP⟩
       case round=>
        obtain ⟨j,ac,rfl,aO,F⟩:=hrel;have ar:=hid aO;have ad:=hid F;clear aO
        by_cases a0:j<Ln l
        . obtain ⟨V,C,E,T,H,bc,aj,b9,al,b7,rfl,bz, -, -, -,c3,am, -, -,aa, -, -⟩:=(aG.later F).get j a0
          have n:Hid (mc l j=ju (Ln l[j].fixes) (jw l l[j])):=by show mc l j=_;unfold mc;rw [gb a0]
          have bW:=hid aa;have dy:=aa.fixes.bound;have cj:=hid (fun (R:Nat) (Q:R<Ln l[j].fixes)=>rU (aH l[j] (fO a0)) Q);have cp:=hid (fun (m:Int) (a3:0<=m) (G:m<=Ln l[j].uses)=>(tn (tt aF cz) a0 a3 G).2);have dr:=hid (fun (m:Int) (a3:0<=m) (G:m<=Ln l[j].uses) (M:World) (L:jM M (some (ep V C)) l K)=>y9 l K (some (ep V C)) I M L ay aF cz j a0 m a3 G);have cg:=hid (aG.later F)
          have D:(j:Int)<Ln l:=by omega
          clear F aa;generalize l[j]=q at *;go_wp2_with fail
          go_loopw [9,10] (fun k _ S=>∃ R:Nat,R<=Ln q.fixes/\k=em R/\(∀ y,y<R->jw l q y=true)/\et wr S) (fun k _ _=>Ln q.fixes - (intOf k).toNat)
          case atStart=>exact ⟨0,eY _,rfl,fun k h=>absurd h (jU _),Below.refl _ _⟩
          case round=>
           obtain ⟨S,rfl⟩:∃ q,q=wr:=⟨_,rfl⟩
           obtain ⟨R,Q,rfl,hallq,aB⟩:=hrel;have b2:=hid hallq;have aM:=hid aB;have a8:=hid (es ad aB);have t:=(aB.cell (p:=⟨V,C+j*7+3,none⟩) bz).trans c3;have e0:=(aB.cell (p:=⟨V,C+j*7+4,none⟩) bz).trans am;have bl:=aB.size
           have da:V<S.heap.size:=by omega
           clear hallq
           by_cases bX:R<Ln q.fixes
           . obtain ⟨ch,fo,rfl,hfx⟩:=((bW.later aB).fixes).gf R bX
             obtain ⟨cN,fr2,fr3,fr4,fr5,fr6,fr7⟩:=cj R bX;have c5:=cp q.fixes[R].m fr6 fr7
             have p:Hid (jw l q R=kI l q q.fixes[R]):=by show jw l q R=_;unfold jw;rw [gb bX]
             obtain ⟨cq,bM,ax,bf, -, -, -⟩:=hfx;have bL:=hid (fun M L=>dr q.fixes[R].m fr6 fr7 M L);generalize q.fixes[R]=f at *
             obtain ⟨y,az⟩:∃ y:Nat,f.at_=y:=⟨f.at_.toNat,by omega⟩
             have c2:y<Ln q.code:=by omega
             obtain ⟨bj,ag,rfl,bs⟩:=((bW.later aB).code).gi y c2;obtain ⟨aL, -,bQ, -, -, -, -⟩:=bs
             have ak:Hid (jl q f.at_=q.code[y].a):=by show jl q f.at_=_;rw [az];exact tp c2
             have dB:(y:Int)<Ln q.code:=by omega
             have b0:=bW.code.bound;rw [az] at bM;generalize q.code[y].a=A at *;obtain ⟨bA,cf,_,_,_,_,_,_,bR,bU,bw,hlb3, -, -, -, -, -,c0, -,be, -, -⟩:=(cg.later aB).get (f7 l q f.m) c5
             injection bw with bw
             injection bw with aw aE _
             subst aw aE;have cb:=be.entries.bound;have b1:Hid (jm l (f7 l q f.m)=l[f7 l q f.m].entries):=p2 c5
             obtain ⟨Z,bn⟩:∃ Z,Z=S.alloc (.cells #[em y,em f.kind,em f.m] 67):=⟨_,rfl⟩
             have a5:et S Z:=by rw [bn];exact ey _ _
             have aN:=hid bn
             have cd:Z.heap[S.heap.size]? = some (.cells #[em y,em f.kind,em f.m] 67):=by rw [bn];exact eT _ _
             have de:Z.heap.size=S.heap.size+1:=by rw [bn];simp
             obtain ⟨av,an,aD⟩:=rV cd;have aA:=(a5.cell (p:=⟨V,C+j*7+3,none⟩) da).trans t;have bp:=(a5.cell (p:=⟨bj,ag+y*3+1,none⟩) aL).trans bQ;have bm:=(a5.cell (p:=⟨V,C+f7 l q f.m*7+5,none⟩) da).trans c0;have bZ:=hid (aB.trans (a5.mono aB.size));have aY:=hid (fun s=>bL (Z.drewN s) (cg.later (es bZ (k7 Z s))))
             have ap:V<Z.heap.size:=by omega
             have bk:bj<Z.heap.size:=by omega
             have dA:((f7 l q f.m:Nat):Int)<Ln l:=by omega
             clear aB a5 bn cd t bQ c0 c3 am be;generalize af:Ln l[f7 l q f.m].entries=bY at *
             have cZ:Hid (kI l q f = !(decide (f.kind=2)&&decide ((bY:Int)<=A))):=by show kI l q f=_;unfold kI;rw [ak.out,b1.out,af]
             clear cj cp dr bL b1 ak bW cg af az cN fr2 fr3 fr4 fr5 fr6 fr7 c5;generalize f7 l q f.m=mo at *;go_upto_region 28 with fail;rw [← aN.out]
             by_cases au:f.kind=2
             . have db:(f.kind == 2)=true:=by simp [au]
               by_cases aT:(bY:Int)<=A
               . have ae:Hid (O=5):=bu.trans (if_pos (lu (i:=j) a0 (n.trans (lu (i:=R) bX (p.trans (cZ.trans (by simp [au,aT])))))))
                 have bb:decide ((bY:Int)<=A)=true:=decide_eq_true aT;clear au
                 go_quiet ((go_at_call 105;exact Calls.quiet_of (aY _)))
                 go_wp2_with fail;go_ret;exact ⟨by rw [ae.out];rfl,es ad (es bZ (k7 _ _))⟩
               . have ae:Hid (jw l q R=true):=p.trans (cZ.trans (by simp [aT]))
                 have bb:decide ((bY:Int)<=A)=false:=decide_eq_false aT;clear au
                 go_quiet ((go_at_call 105;exact Calls.quiet_of (aY _)))
                 go_wp2_with fail;go_roundw
                 case rel=>exact ⟨R+1,by omega,by go_num,lw b2 ae,es bZ (k7 _ _)⟩
                 case measure=>simp [intOf];omega
             . have ae:Hid (jw l q R=true):=p.trans (cZ.trans (by simp [au]))
               have db:(f.kind == 2)=false:=by simp [au]
               clear au
               go_quiet (fail)
               go_wp2_with fail;go_roundw
               case rel=>exact ⟨R+1,by omega,by go_num,lw b2 ae,es bZ (k7 _ _)⟩
               case measure=>simp [intOf];omega
           . obtain rfl:R=Ln q.fixes:=by omega
             have P:Hid (mc l j=true):=n.trans (iO.2 b2);clear aB;go_wp2_with fail;go_roundw
             case rel=>exact ⟨j+1,by omega,by go_num,lw ar P,a8⟩
             case measure=>simp [intOf];omega
        . obtain rfl:j=Ln l:=by omega
          have ae:Hid (O=0):=bu.trans (if_neg (by rw [show o0 l=true from iO.2 ar.out];decide));have cA:=hid F;clear F;go_wp2_with fail;go_ret;exact ⟨by rw [ae.out];rfl,cA⟩
def qd (l:List eO) (j:Nat):List Int:=(List.range j).map fun k=>(Ln l:Int)+1+gJ (l.take k)
def qe (l:List eO) (j:Nat):List Int:=(List.range j).map fun k=>gv (l.take k)
theorem Ey (l:List eO) (j:Nat):intV (qd l (j+1))=intV (qd l j)++[em ((Ln l:Int)+1+gJ (l.take j))]:=by
 unfold qd intV;rw [sx];simp
theorem Ez (l:List eO) (j:Nat):intV (qe l (j+1))=intV (qe l j)++[em (gv (l.take j))]:=by
 unfold qe intV;rw [sx];simp
theorem v2 (f:Nat->Int) (h:w.ownsRow B 3 1 (.slice (some (ep g 0)) n I) n (intV ((List.range n).map f))):g<w.heap.size/\∀ k,k<n->w.cell? (ep g k)=some (em (f k)):=by
 refine ⟨(h.lt g rfl).2,fun k N=>?_⟩;have:=h.cells (g:=g) rfl k (em (f k)) (by simp [intV,N]);rwa [rX,hv] at this
theorem int_one (x:Int):∀ u ∈ (#[Value.int .i64 x]:Array Value).toList,u.oneCell'=true:=fun u aI=>by
 have:u=em x:=by simpa using aI
 subst this
 rfl
theorem zK {k:Nat} (h:w.ownsRow B e p v n ae) (N:v.ownBlock=some k):∃ q,w.heap[k]? = some q:=⟨_,qo (h.lt k N).2⟩
theorem pK.keep {size:Nat} (h:pK w r B e size v n g I ae) {B':Nat} {e':TypeId} {u:Value} {M:List Value} (W:w.ownsRow B' e' p u m M) (U:∀ k,u.ownBlock=some k->v.ownBlock≠some k):r.ownsRow B' e' p u m M:=
 il W fun k N=>by
  obtain ⟨q,Q⟩:=zK W N;rw [h.old k q Q (U k N),Q]
theorem zL {cp:Nat} (W:w.ownsRow B e p d n ae) (U:∀ k,d.ownBlock=some k->c.ownBlock≠some k) (ab:c.ownBlock=some g\/w.heap.size<g):∀ k,d.ownBlock=some k->(Value.slice (some (ep g 0)) m cp).ownBlock≠some k:=fun k N A=>by
 have G:g=k:=fe A;have J:=(W.lt k N).2
 rcases ab with h | h
 . exact U k N (by rw [h,G])
 . omega
structure Lk (w:World) (B:Nat) (l:List eO) (c d:Value) (M:Nat) (v:Value) (cs:List fM):Prop where
 cr:w.ownsRow B 3 1 c (Ln l) (intV (qd l (Ln l)))
 dr:w.ownsRow B 3 1 d (Ln l) (intV (qe l (Ln l)))
 mr:w.heap[M]? = some (.cells #[v,em (gv l)] 81 (0,0))
 vr:w.ownsRow B 69 3 v (Ln cs) (gj cs)
 nc:c.ownBlock≠some M
 nd:d.ownBlock≠some M
 nv:v.ownBlock≠some M
 vc:∀ k,c.ownBlock=some k->v.ownBlock≠some k
 vd:∀ k,d.ownBlock=some k->v.ownBlock≠some k
theorem Lk.later (h:Lk w B l c d b v cs) (F:et w r):Lk r B l c d b v cs:=
 ⟨ownsRow_later h.cr F,ownsRow_later h.dr F,(F.block _ (lt_of_heap h.mr)).trans h.mr,ownsRow_later h.vr F,h.nc,h.nd,h.nv,h.vc,h.vd⟩
theorem Lk.step {v':Value} {cs':List fM} (h:Lk w B l c d b v cs) (x:∀ (V:Nat) (q:Obj),w.heap[V]? = some q->v.ownBlock≠some V->r.heap[V]? = some q) (ba:r.ownsRow B 69 3 v' (Ln cs') (gj cs')) (a5:v'.ownBlock=v.ownBlock\/∃ k,v'.ownBlock=some k/\w.heap.size<=k):Lk (r.setCell (ep b 0) v') B l c d b v' cs':=by
 have aS:=lt_of_heap h.mr
 have aV:v'.ownBlock≠some b:=fun e=>by
  rcases a5 with A | ⟨k,A,N⟩
  . exact h.nv (A.symm.trans e)
  . rw [A] at e;have:=fe e;omega
 have N:∀ {e:TypeId} {u:Value} {n:Nat} {M:List Value},w.ownsRow B e 1 u n M->u.ownBlock≠some b->(∀ k,u.ownBlock=some k->v.ownBlock≠some k)->(r.setCell (ep b 0) v').ownsRow B e 1 u n M/\∀ k,u.ownBlock=some k->v'.ownBlock≠some k:=fun W G J=>by
  refine ⟨il W fun k N=>?_,fun k N e=>?_⟩
  . obtain ⟨q,Q⟩:=zK W N
    rw [fa (p:=(ep b 0)) (by show k≠b;intro e;exact G (by rw [N,e])),x k q Q (J k N),Q]
  . rcases a5 with A | ⟨j,A,ac⟩
    . exact J k N (A.symm.trans e)
    . have:=(W.lt k N).2
      rw [A] at e;have:=fe e;omega
 obtain ⟨a9,a4⟩:=N h.cr h.nc h.vc;obtain ⟨aL,aU⟩:=N h.dr h.nd h.vd;exact ⟨a9,aL,heap_set (x b _ h.mr h.nv) _,il ba (fun k N=>fa (p:=(ep b 0)) (by show k≠b;intro e;exact aV (by rw [N,e])) _),h.nc,h.nd,aV,a4,aU⟩
theorem Lk.start (ab:B<=w.heap.size) (a1:w.ownsRow B 3 1 c (Ln l) (intV (qd l (Ln l)))) (ez:w.ownsRow B 3 1 d (Ln l) (intV (qe l (Ln l)))) :
 Lk (w.alloc (.cells #[eu,em (gv l)] 81)) B l c d w.heap.size (eu) []:=
 ⟨ownsRow_later a1 (ey _ _),ownsRow_later ez (ey _ _),eT _ _,ko _ _ _ _,fun e=>by have:=(a1.lt _ e).2;omega,fun e=>by have:=(ez.lt _ e).2;omega,fun e=>(by cases e),fun k _ e=>(by cases e),fun k _ e=>(by cases e)⟩
theorem EA (h:w.heap[g]? = some (.cells #[] 69)) (F:Y<=g):w.ownsRow Y 69 3 (.slice (some (ep g 0)) 0 0) 0 []:=
 ⟨rfl,Or.inr ⟨g,0,#[],rfl,F,h,eD _,eY _,rfl,rfl⟩⟩
theorem Lk.putC (h:Lk w B l c d b v cs) (U:Ln cs=n) {i:fM} (aa:pK w r B 69 3 v n g I (gj cs++kj i)) :
 r.cell? (ep b 0)=some v/\r.frozen? (ep b 0)=false/\b<r.heap.size/\Lk (r.setCell (ep b 0) (.slice (some (ep g 0)) (n+1) I)) B l c d b (.slice (some (ep g 0)) (n+1) I) (cs++[i]):=by
 subst U;have F:=aa.old b _ h.mr h.nv;refine ⟨by rw [fU F];rfl,ih F 0,lt_of_heap F,?_⟩;refine h.step aa.old ?_ (aa.at_.imp (fun e=>e.symm) (fun e=>⟨g,rfl,by omega⟩));rw [uR,gn];exact aa.own
theorem EB {o:eO} (h:gd o=0) (ac:j<Ln o.fixes) (ak:o.fixes[j].kind=1):o.fixes[j].m=0:=by
 obtain ⟨_,_,_,ag⟩:=qS h;have:=iO.1 ag j ac;unfold kl at this;rw [gb ac] at this;simp only [fs] at this;obtain ⟨_,_,F⟩:=this;unfold mL at F;rw [if_pos ak] at F;unfold hb at F;simp only [fs,decide_eq_true_eq] at F;omega
theorem EC (l:List eO) (o:eO) (f:gQ) (j:Nat) (A:Int) (aT:jl o f.at_=A) (G:f.kind=1->f7 l o f.m=j) :
 (f.kind=1->nB l o f=(Ln l:Int)+1+gJ (l.take j)+A)/\(f.kind=2->nB l o f=(Ln l:Int)+1+gJ (l.take (f7 l o f.m))+(jm l (f7 l o f.m)).getD A.toNat 0)/\(f.kind=3->nB l o f=gv (l.take (f7 l o f.m))+A):=by
 unfold nB ma;rw [aT];refine ⟨fun k=>?_,fun k=>?_,fun k=>?_⟩
 . rw [if_neg (by omega),if_neg (by omega),G k]
 . rw [if_pos k]
 . rw [if_neg (by omega),if_pos k]
theorem ED (cD:v1) (l:List eO) (K:Nat->Value) (a:OA) (I:Nat) (w:World) (aQ:jM w a l K) (ay:Ln l<=I) :
 ew 41 #[.slice a (Ln l) I] w fun e r=>tw w.heap.size (kK l) e r/\et w r:=by
 have bC:=aQ.bound;have aG:=hid aQ;have ao:=hid (zJ cD l K a I (w.alloc (.cells #[eu,em 0] 81)) (aQ.later (ey _ _)) ay);clear aQ cD
 obtain ⟨O,W⟩:∃ O,O=kK l:=⟨_,rfl⟩
 rw [← W];unfold kK at W;have z:=hid W;clear W;go_enter func41,ntmps41;go_wp2_with fail;refine ao.mono ?_;rintro e eq ⟨rfl,ai⟩;have B:=hid (es (ey w _) ai);have c4:=hid ((ai.block w.heap.size (by simp)).trans (eT w (.cells #[eu,em 0] 81)));have b0:=ai.size;simp at b0;obtain ⟨bg,b2,rf⟩:=jy c4;have c8:=lt_of_heap c4;clear ai ao
 by_cases ah:jx l=0
 rotate_left
 . have ae:Hid (O = .error (jx l)):=z.trans (if_pos ah)
   generalize jx l=z at *;have cE:=hid ah;go_wp2_with fail;refine bodyPost_ret (v:=.tuple #[.agg #[eu,em 0],em z]) (by simp [results,results41,go_sem,bg,b2,c8]) rfl ⟨by rw [ae.out];exact ⟨rfl,cE⟩,?_⟩;exact (B.setCell (p:=(ep w.heap.size 0)) (eD _) _).setCell (p:=(ep w.heap.size 1)) (eD _) _
 obtain ⟨ak,au,aI,bq,c9,k6⟩:=yZ ah;have aZ:=hid (z.trans (if_neg (fun h=>h ah)));have aH:=hid aI;have aF:=hid (vI au aI);have d0:=hid bq
 have d1:Hid (vz l):=⟨fun o aa=>by have:=yY (aI o aa);have:=vH (aI o aa);omega,bq⟩
 have cz:=hid c9;have cs:=hid k6;rw [ah];clear z aI bq c9 k6 ah bg b2 rf;go_wp2_with fail
 go_loopw [5,6,7,8,9] (fun c d y R i wr=>∃ j:Nat,j<=Ln l/\i=em j/\y=em ((Ln l:Int)+1+gJ (l.take j))/\R=em (gv (l.take j))/\wr.ownsRow eq.heap.size 3 1 c j (intV (qd l j))/\wr.ownsRow eq.heap.size 3 1 d j (intV (qe l j))/\(∀ k,d.ownBlock=some k->c.ownBlock≠some k)/\et eq wr) (fun _ _ _ _ i _=>Ln l - (intOf i).toNat)
 case atStart=>exact ⟨0,eY _,rfl,by simp [gJ],by simp [gv],ko _ _ _ _,ko _ _ _ _,fun k N=>(by cases N),Below.refl _ _⟩
 case round =>
  obtain ⟨j,ac,rfl,rfl,rfl,a1,ez,U,F⟩:=hrel;obtain ⟨aA,a8,rfl, -, -⟩:=im a1;obtain ⟨Y,dx,rfl, -, -⟩:=im ez;have cX:=hid a1;have d9:=hid ez;have dF:=hid U;have ad:=hid F;have bN:=F.size;have c7:=nw aF j ac;clear U a1 ez
  by_cases a0:j<Ln l
  . obtain ⟨V,C,E,T,H,bc,aj,b9,al,b7,rfl,bz, -, -,a4,c3, -, -, -, -, -, -⟩:=aG.get j a0
    have aN:=hid (fun M (L:et w M)=>(⟨gl bz L.size,(L.cell (p:=⟨V,C+j*7+2,none⟩) bz).trans a4,(L.cell (p:=⟨V,C+j*7+3,none⟩) bz).trans c3⟩:V<M.heap.size/\M.cell? ⟨V,C+j*7+2,none⟩=some (em l[j].data)/\M.cell? ⟨V,C+j*7+3,none⟩=some (.slice H (Ln l[j].code) bc)));obtain ⟨dk,dl,dI,du⟩:=aF.2 l[j] (fO a0);have e1:=hid (te a0);have dc:=hid (tg a0);have e5:=hid (Ey l j);have dg:=hid (Ez l j);clear a4 c3 F;generalize (Ln l[j].code)=dV at *;generalize l[j].data=cL at *;generalize gJ (l.take j)=bT at *;generalize gv (l.take j)=cO at *
    go_wp2_with (at_builtin;first
     | (refine pL rfl (.tmp 33) (.tmp 35) 49 rfl eq.heap.size 3 _ 1 8 Tryz.underlying49 Tryz.infoInt rfl (by decide) wr (.slice aA j a8) j (intV (qd l j)) rfl cX #[em ((Ln l:Int)+1+bT)] _ rfl rfl rfl (int_one _) (by omega) (by decide) (by omega) _ rfl ?_;intro g bo w2 aa;have bB:=hid aa.own;have cU:=hid (aa.keep d9 dF);have aM:=hid (ad.trans aa.below);have cH:Hid (∀ k,(Value.slice Y j dx).ownBlock=some k->(Value.slice (some (ep g 0)) (j+1) bo).ownBlock≠some k):=zL d9 dF aa.at_;have bl:=aa.size;clear aa)
     | (refine pL rfl (.tmp 37) (.tmp 39) 49 rfl eq.heap.size 3 _ 1 8 Tryz.underlying49 Tryz.infoInt rfl (by decide) w2 (.slice Y j dx) j (intV (qe l j)) rfl cU #[.int .i64 cO] _ rfl rfl rfl (int_one _) (by omega) (by decide) (by omega) _ rfl ?_;intro bs aX eC aa;have dd:=hid aa;have bI:=hid (aa.keep bB (fun k N e=>cH k e N));have aP:=hid (aM.trans aa.below);have d3:Hid (∀ k,(Value.slice (some ⟨bs,0,none⟩) (j+1) aX).ownBlock=some k->(Value.slice (some ⟨g,0,none⟩) (j+1) bo).ownBlock≠some k):=fun k N e=>zL bB (fun k h e=>cH k e h) aa.at_ k e N;have bE:=aa.size;obtain ⟨ap,a4,c3⟩:=aN eC (es B aP);clear aa))
    go_wp2_with fail;go_roundw
    case rel=>exact ⟨j+1,by omega,by go_num,by rw [e1.out];congr 1;omega,by rw [dc.out],by rw [e5.out];exact bI,by rw [dg.out];exact dd.own,d3,aP⟩
    case measure=>simp [intOf];omega
  . obtain rfl : j=Ln l:=by omega
    rw [iA] at *;have cy:=tv l (Ln l) (eD _);rw [iA] at cy;have cA:=hid (es B F);have ce:=hid ((F.block _ c8).trans c4);obtain ⟨bg,b2,rf⟩:=jy ce;have c8:=lt_of_heap ce
    obtain ⟨eA,rfl⟩:∃ q,q=wr:=⟨_,rfl⟩
    clear F;generalize ca:(gK l (Ln l)).length=cP at *;have x:=hid ca;clear ca
    by_cases ax:2048<cP
    . have ae:Hid (O = .error 2):=aZ.trans (if_pos (Or.inl ax))
      have ds:(2048:Int)<(Ln l:Int)+1+gJ l:=by omega
      generalize gJ l=bT at *;generalize gv l=cO at *;go_wp2_with fail;refine bodyPost_ret (v:=.tuple #[.agg #[eu,em 0],em 2]) (by simp [results,results41,go_sem,bg,b2,c8]) rfl ⟨by rw [ae.out];exact ⟨rfl,by decide⟩,?_⟩;exact (cA.setCell (p:=(ep w.heap.size 0)) (eD _) _).setCell (p:=(ep w.heap.size 1)) (eD _) _
    by_cases bf:512<gv l
    . have ae:Hid (O = .error 2):=aZ.trans (if_pos (Or.inr bf))
      have ds:¬ ((2048:Int)<(Ln l:Int)+1+gJ l):=by omega
      generalize gJ l=bT at *;generalize gv l=cO at *;go_wp2_with fail;refine bodyPost_ret (v:=.tuple #[.agg #[eu,em 0],em 2]) (by simp [results,results41,go_sem,bg,b2,c8]) rfl ⟨by rw [ae.out];exact ⟨rfl,by decide⟩,?_⟩;exact (cA.setCell (p:=(ep w.heap.size 0)) (eD _) _).setCell (p:=(ep w.heap.size 1)) (eD _) _
    have ae:Hid (O = .ok (gK l (Ln l),gv l)):=aZ.trans (if_neg (by omega))
    have ds:¬ ((2048:Int)<(Ln l:Int)+1+gJ l):=by omega
    obtain ⟨dJ,cx1,cu, -, -⟩:=p3 cX (by omega:0<Ln l);obtain ⟨dG,dx1,ed, -, -⟩:=p3 d9 (by omega:0<Ln l)
    injection cu with aw aE b4
    subst aw b4
    injection ed with aw aE b4
    subst aw b4
    obtain ⟨b,aS⟩:∃ b,b=eA.heap.size:=⟨_,rfl⟩
    obtain ⟨Z,bn⟩:∃ Z,Z=eA.alloc (.cells #[eu,em (gv l)] 81):=⟨_,rfl⟩
    have dL:=hid bn
    have dn:Hid (Lk Z eq.heap.size l (.slice (some (ep dJ 0)) (Ln l) a8) (.slice (some (ep dG 0)) (Ln l) dx) b (eu) []):=by rw [bn,aS];exact Lk.start bN cX d9
    have b1:Hid (et eq Z):=by rw [bn];exact ad.trans ((ey eA _).mono bN)
    have dh:eq.heap.size<=b:=by omega
    have bL:=hid aS;clear bn aS bg b2 rf cy x cX d9 dF;go_upto_region 16 with fail;rw [← dL.out,← bL.out];clear dL bL;go_wp2_with fail
    go_loopw [11] (fun i wr=>∃ (j:Nat) (v:Value),j<=Ln l/\i=em j/\Lk wr eq.heap.size l (.slice (some (ep dJ 0)) (Ln l) a8) (.slice (some (ep dG 0)) (Ln l) dx) b v (kJ l j)/\et eq wr) (fun i _=>Ln l - (intOf i).toNat)
    case atStart=>exact ⟨0,_,eY _,rfl,dn,b1⟩
    case round =>
     obtain ⟨j,v,ac,rfl,N,F⟩:=hrel;have a7:=N.vr;rw [rW] at a7;obtain ⟨cC,bV,rfl, -, -⟩:=im a7;obtain ⟨bF, -, -⟩:=jy N.mr;have cF:=lt_of_heap N.mr;have bb:=hid F;have d8:=F.size
     by_cases a0:j<Ln l
     . obtain ⟨V,C,E,T,H,bc,aj,b9,al,b7,rfl,bz, -, -, -, -, -, -,aR, -, -, -⟩:=(aG.later (es B F)).get j a0
       have a6:=hid (N.later (ix wr));have dt:=hid (ownsRow_later a7 (ix wr));obtain ⟨cM,hgc⟩:=v2 _ N.cr;have dW:=hgc j a0;have c7:=nw aF j ac;obtain ⟨cJ,ci⟩:=d1.main l[j] (fO a0);have cY:=hid (yT a0);have dP:=aF.1;clear N F a7 hgc;generalize l[j].main=mn at *;generalize gJ (l.take j)=bT at *;generalize gv (l.take j)=n at *;have b8:IntKind.i64.wrap ((Ln l:Int)+1+bT+mn)=(Ln l:Int)+1+bT+mn:=nx (by omega) (by omega);go_upto_region 19 with fail
       go_region_law (first | (refine xZ rfl (.tmp 72) (.tmp 84) 59 rfl eq.heap.size 69 _ 3 24 Tryz.underlying59 Tryz.infoInstr rfl (by decide) wr.drew (.slice cC j bV) j (gj (kJ l j)) rfl dt #[em 13,em ((Ln l:Int)+1+bT+mn),em 0] _ (by simp) rfl rfl (qO ⟨13,_,0⟩) (by omega) (by decide) d8 _ rfl ?_;intro bs aX eJ aa;obtain ⟨b5,aL,aU,hk5⟩:=a6.putC (rW l j) (i:=⟨13,_,0⟩) aa;have ar:=hid hk5;have bO:=hid ((bb.drew.trans aa.below).setCell (p:=(ep b 0)) dh (.slice (some (ep bs 0)) (j+1) aX));clear aa hk5))
       all_goals
        go_wp2_with fail;go_roundw
        case rel=>exact ⟨j+1,_,by omega,by go_num,by rw [yS,cY.out];exact ar,bO⟩
        case measure=>simp [intOf];omega
     . obtain rfl:j=Ln l:=by omega
       have a6:=hid N;have dt:=hid a7;have dP:=aF.1
       obtain ⟨eZ,rfl⟩:∃ q,q=wr:=⟨_,rfl⟩
       clear N F a7
       go_wp2_with (at_builtin;refine pL rfl (.tmp 88) (.tmp 90) 59 rfl eq.heap.size 69 _ 3 24 Tryz.underlying59 Tryz.infoInstr rfl (by decide) eZ (.slice cC (Ln l) bV) (Ln l) (gj (kJ l (Ln l))) rfl dt #[em 20,em 0,em 0] _ rfl rfl rfl (qO ⟨20,0,0⟩) (by omega) (by decide) d8 _ rfl ?_;intro aO aR eW aa;obtain ⟨b5,aL,aU,hk7⟩:=a6.putC (rW l _) (i:=⟨20,0,0⟩) aa;have aJ:=hid hk7;have bD:=hid ((bb.trans aa.below).setCell (p:=(ep b 0)) dh (.slice (some (ep aO 0)) (Ln l+1) aR));clear aa hk7)
       go_upto_region 21 with fail;generalize eW.setCell (ep b 0) (.slice (some (ep aO 0)) (Ln l+1) aR)=aY at *
       have dR:Hid (gK l 0=kJ l (Ln l)++[⟨20,0,0⟩]):=by show gK l 0=_;simp [gK]
       clear b5 aL aU bF cF dt a6 bb d8;go_wp2_with fail
       go_loopw [12,13,14,15,16,17] (fun i _ _ _ _ _ wr=>∃ (j:Nat) (v:Value),j<=Ln l/\i=em j/\Lk wr eq.heap.size l (.slice (some (ep dJ 0)) (Ln l) a8) (.slice (some (ep dG 0)) (Ln l) dx) b v (gK l j)/\et eq wr) (fun i _ _ _ _ _ _=>Ln l - (intOf i).toNat)
       case atStart=>exact ⟨0,_,eY _,rfl,by rw [dR.out];exact aJ,bD⟩
       case round=>
        obtain ⟨j,v,ac,rfl,N,F⟩:=hrel;have a7:=N.vr;obtain ⟨cC,bV,rfl, -, -⟩:=im a7;have a6:=hid N;have af:=hid F;have d8:=F.size
        by_cases a0:j<Ln l
        . obtain ⟨V,C,E,T,H,bc,aj,b9,al,b7,rfl,bz, -, -, -,c3,am, -, -,aa, -, -⟩:=(aG.later (es B F)).get j a0
          obtain ⟨dk,dl,dI,du⟩:=aF.2 l[j] (fO a0);have cx:=aH l[j] (fO a0);have dy:=aa.fixes.bound;have cy:=tv l j ac;have ej:=nw aF j ac;have bW:=hid aa;have d7:=hid (tt d0 cz);have cj:=hid (fun (R:Nat) (Q:R<Ln l[j].fixes)=>rU cx Q);have dz:=hid (fun (R:Nat) (Q:R<Ln l[j].fixes)=>vC cx Q);have dU:=hid (fun (R:Nat) (Q:R<Ln l[j].fixes)=>EB cx Q);have dq:=hid (fun (R y:Nat) (G:R<=Ln l[j].fixes) (J:lx l[j] R<y)=>vD l cx R y G J);have cp:=hid (fun (m:Int) (a3:0<=m) (G:m<=Ln l[j].uses)=>(tn d7 a0 a3 G).2);have cV:=hid (fun (R:Nat) (Q:R<Ln l[j].fixes)=>yV cs a0 Q);have dr:=hid (fun (m:Int) (a3:0<=m) (G:m<=Ln l[j].uses) (M:World) (L:jM M (some (ep V C)) l K)=>y9 l K (some (ep V C)) I M L ay d0 cz j a0 m a3 G)
          have dT:=hid (y8 d0 a0);have cg:=hid (aG.later (es B F));have cv:=hid (vK l a0);have dP:=aF.1;have dj:=ey wr (.cells #[] 69);generalize l[j]=q at *
          obtain ⟨aK,bd,ck,aW,d2,hat1⟩:=rY (wr.alloc (.cells #[] 69)) wr.heap.size 59 (.slice (some (ep wr.heap.size 0)) 0 0) [] (EA (eT _ _) (eD _)) H bc q.code (fun U=>by
           obtain ⟨bj,ag,rfl,_⟩:=(bW.later dj).code.gi 0 (by omega);refine ⟨bj,ag,rfl,fun i X=>?_⟩;obtain ⟨e4,co',e,a2,bx,bQ,i2,_⟩:=(bW.later dj).code.gi i X
           cases e
           exact ⟨bx,bQ,i2⟩) (by simp;omega) (by simp)
          rw [w4,qt,hv] at aW;obtain ⟨g,bP,rfl,hgB,cM⟩:=p3 aW (by omega);have bK:et wr bd:=dj.grown d2 (by simp) (fun k N=>by have h:wr.heap.size=k:=fe N;omega);have bh:=hid ck;have aq:=hid aW;have bv:=hid bK;have co:=bK.size;clear ck aW d2 hat1 bK dj F N a7 aa
          go_wp2_with (at_builtin;refine Lib.wpList_append_run _ rfl _ _ _ _ rfl _ _ rfl rfl _ bd bh ?_)
          go_loopw [14,15,16,17] (fun k _ _ _ S=>∃ R:Nat,R<=Ln q.fixes/\k=em R/\S.ownsRow wr.heap.size 69 3 (.slice (some (ep g 0)) (Ln q.code) bP) (Ln q.code) (gj (gT l q R))/\et wr S) (fun k _ _ _ _=>Ln q.fixes - (intOf k).toNat)
          case atStart=>exact ⟨0,eY _,rfl,aq,bv⟩
          case round=>
           obtain ⟨S,rfl⟩:∃ q,q=wr:=⟨_,rfl⟩
           obtain ⟨R,Q,rfl,ba,aB⟩:=hrel;have cc:=hid ba;have aM:=hid aB;have bl:=aB.size;have e0:=(aB.cell (p:=⟨V,C+j*7+4,none⟩) bz).trans am
           have da:V<S.heap.size:=by omega
           have dQ:=(ba.lt g rfl).2;have e3:=(ba.lt g rfl).1
           by_cases bX:R<Ln q.fixes
           . obtain ⟨ch,fo,rfl,hfx⟩:=((bW.later aB).fixes).gf R bX
             obtain ⟨cN,fr2,fr3,fr4,fr5,fr6,fr7⟩:=cj R bX;have c5:=cp q.fixes[R].m fr6 fr7;obtain ⟨cq,bM,ax,bf, -, -, -⟩:=hfx;have bL:=hid (fun M L=>dr q.fixes[R].m fr6 fr7 M L);have dD:=hid (vB l q bX);have cZ:=hid (cV R bX);have cB:=dz R bX;have dS:=hid (fun ak=>dU R bX ak);generalize q.fixes[R]=f at *
             obtain ⟨y,az⟩:∃ y:Nat,f.at_=y:=⟨f.at_.toNat,by omega⟩
             have c2:y<Ln q.code:=by omega
             have d5:y<(gT l q R).length:=by rw [kn];exact c2
             have cR:=dq R y (by omega) (by omega)
             have di:jl q f.at_=(gT l q R)[y].a:=by
              have:(gT l q R)[y]=q.code[y]:=by
               rw [gb d5,gb c2] at cR;exact fe cR
              show jl q f.at_=_;rw [this,az];exact tp c2
             have ab:=hid (EC l q f j _ di (fun ak=>by rw [dS.out ak];exact dT))
             have bG:Hid (f.kind=2->(gT l q R)[y].a<(jm l (f7 l q f.m)).length):=fun au=>by
              have G:kI l q f=true:=cZ.out;unfold kI at G;rw [di] at G;simp [au] at G;exact G
             have dB:(y:Int)<Ln q.code:=by omega
             rw [di] at fr4 fr5;rw [az] at bM
             obtain ⟨Z,bn⟩:∃ Z,Z=S.alloc (.cells #[em y,em f.kind,em f.m] 67):=⟨_,rfl⟩
             have a5:et S Z:=by rw [bn];exact ey _ _
             have aN:=hid bn
             have de:Z.heap.size=S.heap.size+1:=by rw [bn];simp
             have cd:Z.heap[S.heap.size]? = some (.cells #[em y,em f.kind,em f.m] 67):=by rw [bn];exact eT _ _
             have bZ:=hid (aB.trans (a5.mono aB.size));have cl:=hid (bL Z (cg.later bZ));have p:=hid (fun u (c1:et Z u)=>rV ((c1.block _ (lt_of_heap cd)).trans cd));have dO:=hid (fun u (c1:et Z u)=>a6.later (es bZ c1));have cn:=hid (fun u (c1:et Z u)=>yU (ownsRow_later (ownsRow_later ba a5) c1) y d5 (kn l q R))
             have dC:Hid (∀ o ∈ jm l (f7 l q f.m),0<=o/\o<=2048):=by
              rw [p2 c5];exact yW (aH _ (fO c5))
             have dM:jm l (f7 l q f.m)=l[f7 l q f.m].entries:=p2 c5
             have dp:=hid (fun u (c1:et Z u)=>(by
              obtain ⟨bA,cf,_,_,_,_,_,_,bR,bU,bw, -, -, -, -, -, -,c0, -,be, -, -⟩:=(cg.later (es bZ c1)).get (f7 l q f.m) c5
              injection bw with bw
              injection bw with aw aE _
              subst aw aE;have cW:=be.entries;rw [← dM] at c0 cW
              exact ⟨bR,bU,c0,cW⟩:∃ bR bU,u.cell? ⟨V,C+f7 l q f.m*7+5,none⟩=some (.slice bR (jm l (f7 l q f.m)).length bU)/\eE u eV bR (jm l (f7 l q f.m)).length (gS (jm l (f7 l q f.m)))))
             have c7:=nw aF (f7 l q f.m) (by omega);obtain ⟨av,an,aD⟩:=rV cd;have ek:=lt_of_heap cd
             have dA:((f7 l q f.m:Nat):Int)<Ln l:=by omega
             clear a5 bn cR cB dq cV aB ba cN fr2 fr6 fr7 bL cZ di;clear dM;generalize (gT l q R)[y].a=A at *;generalize jm l (f7 l q f.m)=t at *;generalize f7 l q f.m=mo at *;go_upto_region 29 with fail;rw [← aN.out];clear aN
             have e7:V<Z.heap.size:=by omega
             go_wp2_with fail;refine cl.mono ?_;rintro e u ⟨rfl,c1⟩
             have cK:et Z u:=by obtain ⟨e8,rfl⟩:=c1;exact k7 _ _
             obtain ⟨bJ,bk,bm⟩:=p u cK;obtain ⟨bg,b2,bi,bt⟩:=cn u cK;have b3:=hid bt;have dZ:=hid (fun s=>(cn (u.drewN s) (es cK (k7 u s))).2.2.2);have a9:=dO u cK;obtain ⟨ec,hcc⟩:=v2 _ a9.cr;obtain ⟨eg,cG⟩:=v2 _ a9.dr;have dH:=hid (bZ.trans (cK.mono (by omega)));have ef:=cK.size;have HbY:=hid cK
             have e9:V<u.heap.size:=by omega
             clear c1 cK a9 bt av an aD cl p cn dO;obtain ⟨D,aT,K3⟩:=ab.out
             by_cases ak:f.kind=1
             . have ae:=hid (D ak)
               have dW:=hcc j a0
               have dK:(f.kind == 1)=true:=by simp [ak]
               clear D aT K3 ab hcc cG dp bG ak;generalize gJ (l.take j)=bT at *;generalize gJ (l.take mo)=cm at *;generalize gv (l.take mo)=dm at *;generalize gv (l.take j)=aV at *;have b8:IntKind.i64.wrap ((Ln l:Int)+1+bT+A)=(Ln l:Int)+1+bT+A:=nx (by omega) (by omega);go_wp2_with fail;go_roundw
               case rel=>exact ⟨R+1,by omega,by go_num,by rw [dD.out,ae.out,az];exact b3 _,dH.setCell (p:=⟨g,y*3+1,none⟩) (by show wr.heap.size<=g;omega) _⟩
               case measure=>simp [intOf];omega
             by_cases au:f.kind=2
             . have e6:=bG au
               obtain ⟨i,rfl⟩:∃ i:Nat,A=i:=⟨A.toNat,by omega⟩
               have X:i<Ln t:=by omega
               obtain ⟨bR,bU,c0,cW⟩:=dp u HbY;have cb:=cW.bound;obtain ⟨dY,eo,rfl,cr,dN⟩:=cW.entI i X;obtain ⟨eb,ex1⟩:=dC t[i] (fO X);have ae:Hid (nB l q f=(Ln l:Int)+1+gJ (l.take mo)+t[i]):=(aT au).trans (by rw [mT,lJ,gb X];rfl);have ee:=hcc mo c5
               have dK:(f.kind == 1)=false:=by simp [ak]
               have db:(f.kind == 2)=true:=by simp [au]
               have ea:(i:Int)<Ln t:=by omega
               clear D aT K3 ab hcc cG dp bG dC ak au cW;generalize t[i]=ei at *;generalize (Ln t)=bY at *;generalize gJ (l.take j)=bT at *;generalize gJ (l.take mo)=cm at *;generalize gv (l.take mo)=dm at *;generalize gv (l.take j)=aV at *;have b8:IntKind.i64.wrap ((Ln l:Int)+1+cm+ei)=(Ln l:Int)+1+cm+ei:=nx (by omega) (by omega);go_wp2_with fail
               go_quiet (fail)
               go_wp2_with fail;go_roundw
               case rel=>exact ⟨R+1,by omega,by go_num,by rw [dD.out,ae.out,az];exact dZ _ _,(es dH (k7 u _)).setCell (p:=⟨g,y*3+1,none⟩) (by show wr.heap.size<=g;omega) _⟩
               case measure=>simp [intOf];omega
             . have ae:=hid (K3 (by omega))
               have el:=cG mo c5
               have dK:(f.kind == 1)=false:=by simp [ak]
               have db:(f.kind == 2)=false:=by simp [au]
               clear D aT K3 ab hcc cG dp bG dC ak au;generalize gJ (l.take j)=bT at *;generalize gJ (l.take mo)=cm at *;generalize gv (l.take mo)=dm at *;generalize gv (l.take j)=aV at *;have b8:IntKind.i64.wrap (dm+A)=dm+A:=nx (by omega) (by omega);go_wp2_with fail;go_roundw
               case rel=>exact ⟨R+1,by omega,by go_num,by rw [dD.out,ae.out,az];exact b3 _,dH.setCell (p:=⟨g,y*3+1,none⟩) (by show wr.heap.size<=g;omega) _⟩
               case measure=>simp [intOf];omega
           . obtain rfl:R=Ln q.fixes:=by omega
             have a9:=a6.later aB;obtain ⟨bF, -, -⟩:=jy a9.mr;have cF:=lt_of_heap a9.mr;obtain ⟨P,eJ,hr5,ho5,hg5,hat5⟩:=rY S eq.heap.size 59 (.slice cC (gK l j).length bV) (gK l j) a9.vr (some (ep g 0)) bP (gT l q (Ln q.fixes)) (rZ (by rw [kn];exact ba)) (by rw [kn];omega) (by omega);rw [kn] at hr5;have b6:=a9.step (v':=P) (cs':=gK l j++gT l q (Ln q.fixes)) (fun V q F U=>(hg5.block V (lt_of_heap F) (ru U)).trans F) (by rw [gn];exact ho5) (hat5.imp id (fun e=>⟨_,e,eD _⟩));obtain ⟨ct,cc5,rfl, -, -⟩:=im ho5;have dw:=(hg5.block b cF (ru a9.nv)).trans a9.mr;obtain ⟨bH, -,d6⟩:=jy dw;have cw:=lt_of_heap dw;have eh:=d6 0;generalize cT:(gK l j).length+(gT l q (Ln q.fixes)).length=c6 at *;have dX:=hid b6;have bb:=hid (((af.trans (aB.mono d8)).grown hg5 (by omega) (fun k N=>(a9.vr.lt k N).1)).setCell (p:=(ep b 0)) dh (.slice ct c6 cc5))
             have bu:=hid hr5;clear hr5 ho5 hg5 hat5 dw b6 a9 aB ba cT d6 cy;generalize (gK l j).length=dV at *
             go_wp2_with (at_builtin;refine Lib.wpList_append_run _ rfl _ _ _ _ rfl _ _ rfl rfl _ eJ bu ?_;clear bF cF)
             go_wp2_with fail;go_roundw
             case rel=>exact ⟨j+1,_,by omega,by go_num,by rw [cv.out];exact dX,bb⟩
             case measure=>simp [intOf];omega
        . obtain rfl:j=Ln l:=by omega
          have bp:=(F.block _ (lt_of_heap c4)).trans c4;obtain ⟨bg,b2,rf⟩:=jy bp;have cQ:=lt_of_heap bp;obtain ⟨bF,br, -⟩:=jy N.mr;have cF:=lt_of_heap N.mr;have d4:=lt_of_heap c4;have dE:=hid (vE a7 (by omega:w.heap.size<=eq.heap.size));have df:=hid (fun k (N:(Value.slice cC (gK l (Ln l)).length bV).ownBlock=some k)=>(fun e=>by have:=(a7.lt k N).1;omega:k≠w.heap.size));have cA:=hid (es B F);clear N F a7 bp;generalize ca:(gK l (Ln l)).length=cP at *;have e2:=hid ca;clear ca;generalize gv l=cO at *;go_wp2_with fail;refine bodyPost_ret (v:=.tuple #[.agg #[.slice cC cP bV,em cO],em 0]) (by simp [results,results41,go_sem,bg,b2,cQ]) rfl ⟨?_,?_⟩
          . rw [ae.out]
            refine ⟨_,rfl,?_⟩;rw [e2.out];exact il (il dE (fun k N=>fa (p:=(ep w.heap.size 0)) (df k N) _)) (fun k N=>fa (p:=(ep w.heap.size 1)) (df k N) _)
          . exact (cA.setCell (p:=(ep w.heap.size 0)) (eD _) _).setCell (p:=(ep w.heap.size 1)) (eD _) _
end Go.Proofs.YtndkhgakfodldaaGreatDoor
