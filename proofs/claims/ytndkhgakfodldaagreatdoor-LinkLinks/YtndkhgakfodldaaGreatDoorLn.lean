import Derived.Test.YtndkhgakfodldaaGreatDoorLe
import Derived.Test.YtndkhgakfodldaaGreatDoorXe
set_option maxRecDepth 100000
set_option maxHeartbeats 12800000
set_option linter.unusedSimpArgs false
set_option linter.unusedVariables false
open Go.Proofs.Tryz
open List renaming length → ln
namespace Go.Proofs.YtndkhgakfodldaaGreatDoor
open Go.RowKit Go.Maps Go.Sort Go.WideMaps
variable {B b Y I g j m n p:Nat} {c d v:Value} {cs:List fM} {e:TypeId} {l:List eO} {w r:World} {ae:List Value}
def v1:Prop:=∀ (o:eO) (E:OA) (T:Nat) (H:OA) (bc:Nat) (aj:OA) (b9:Nat) (al:OA) (b7:Nat) (w:World),jk w o E H aj al->
    ew 34 #[.agg #[.string o.name,.slice E (ln o.uses) T,em o.data,.slice H (ln o.code) bc,.slice aj (ln o.fixes) b9,.slice al (ln o.entries) b7,em o.main]] w fun e r=>e = .returned (em (gd o))/\et w r
theorem Eu:∀ b:List (L8),Fx.zgd b = !decide b.Nodup:=by
 apply Fx.zeq
 . rfl
 . intro l a aH
   rw [Fx.zin,aH]
   by_cases G:l.Nodup
   . by_cases J:a ∈ l
     . have:¬ (l++[a]).Nodup:=fun h=>by
        have:=(tZ.1 h).2.2 a J a (by simp);exact this rfl
       simp [G,J,this]
     . have:(l++[a]).Nodup:=tZ.2 ⟨G,by simp,fun q Q o z=>by
        have:o=a:=by simpa using z
        subst this;intro e;subst e
        exact J Q⟩
       simp [G,J,this]
   . have:¬ (l++[a]).Nodup:=fun h=>G (tZ.1 h).1
     simp [G,this]
def nJ (l:List eO):List ByteArray:=l.map eO.name
theorem Ev (l:List eO):Fx.zbi (nJ l)=hD l:=by unfold Fx.zbi nJ hD;rw [List.map_map];rfl
theorem Ew (l:List eO) (h:j<ln l):nJ (l.take (j+1))=nJ (l.take j)++[l[j].name]:=by
 unfold nJ;rw [hI h,mq]
 rfl
theorem Ex {a:OA} {ae:List ByteArray} (h:qw w Y (.slice a (ln ae) I) ae):Fx.zez w a ae:=by
 by_cases a3:ln ae=0
 . exact Or.inl (ii a3)
 . obtain ⟨ad,f,e,a1⟩:=h.cell
   injection e with aw _ _
   subst aw;obtain ⟨V,ab,F,_⟩:=a1 0 (by omega);refine Or.inr ⟨V,0,ab,F,fun i X=>?_⟩;obtain ⟨bB,v,_,hcell⟩:=a1 i X;rw [ab] at v
   injection v with v
   injection v with v
   subst v;rw [hv];exact hcell
theorem str_one (s:ByteArray):∀ u ∈ (#[Value.string s]:Array Value).toList,u.oneCell'=true:=fun u aI=>by
 have:u = .string s:=by simpa using aI
 subst this
 rfl
theorem zJ (cG:v1) (l:List eO) (K:Nat->Value) (a:OA) (I:Nat) (w:World) (aQ:jM w a l K) (ay:ln l<=I) :
 ew 44 #[.slice a (ln l) I] w fun e r=>e = .returned (em (jx l))/\et w r:=by
 have bC:=aQ.bound;have aG:=hid aQ;have b5:=hid cG;clear aQ cG
 obtain ⟨O,W⟩:∃ O,O=jx l:=⟨_,rfl⟩
 rw [← W];unfold jx at W;have z:=hid W;clear W;go_enter func44,ntmps44
 by_cases ab:ln l<1\/4<ln l
 . have ae:Hid (O=2):=z.trans (if_pos ab)
   have aq:(decide (1<=(ln l:Int))&&decide ((ln l:Int)<=4))=false:=by
    rcases ab with h | h
    . rw [decide_eq_false (by omega:¬ (1<=(ln l:Int)))];rfl
    . rw [decide_eq_false (by omega:¬ ((ln l:Int)<=4)),Bool.and_false]
   go_wp2_with (go_at_call 63;go_call p4 _ _ _ _ as e r ⟨rfl,rfl⟩;rw [aq])
   go_ret;exact ⟨by rw [ae.out];rfl,Below.refl _ _⟩
 have aZ:=hid (z.trans (if_neg ab))
 have a2:1<=ln l/\ln l<=4:=by omega
 have aq:(decide (1<=(ln l:Int))&&decide ((ln l:Int)<=4))=true:=by
  rw [decide_eq_true (by omega:1<=(ln l:Int)),decide_eq_true (by omega:(ln l:Int)<=4)];rfl
 clear ab z
 go_wp2_with (go_at_call 63;go_call p4 _ _ _ _ as e r ⟨rfl,ah⟩;rw [aq,ah];clear ah)
 clear aq
 go_loopw [3,4,5] (fun v i _ wr=>∃ j:Nat,j<=ln l/\i=em j/\(∀ k (h:k<ln l),k<j->gd l[k]=0)/\qw wr w.heap.size v (nJ (l.take j))/\et w wr) (fun _ i _ _=>ln l - (intOf i).toNat)
 case atStart=>exact ⟨0,eY _,rfl,fun k _ h=>absurd h (jU _),ko _ _ _ _,Below.refl _ _⟩
 case round =>
  obtain ⟨j,ac,rfl,aO,ba,F⟩:=hrel;have ar:=hid aO;have ad:=hid F;have bN:=F.size
  have cv:(nJ (l.take j)).length=j:=by unfold nJ;rw [qu,ky];omega
  unfold qw at ba;rw [cv] at ba;have ce:=hid ba;obtain ⟨cF,bW,rfl, -, -⟩:=im ba;clear aO ba
  by_cases a0:j<ln l
  . obtain ⟨V,C,E,T,H,bc,aj,b9,al,b7,rfl,bz,bf,a9,a4,c3,am,aX,aR,aa, -, -⟩:=(aG.later F).get j a0
    have ao:=hid (b5 l[j] E T H bc aj b9 al b7 wr aa);have aV:=hid (Ew l a0);clear aa F;go_wp2_with fail;go_call ao as e w2 ⟨rfl,aB⟩;have aM:=hid (es ad aB);have bm:=(aB.cell (p:=⟨V,C+j*7,none⟩) bz).trans bf;have aA:=hid (ownsRow_later ce aB);have bl:=aB.size
    have d7:V<w2.heap.size:=by omega
    clear aB ao bf a9 a4 c3 am aX aR
    by_cases aT:gd l[j]=0
    . have ai:Hid (∀ k (h:k<ln l),k<j+1->gd l[k]=0):=fun k h N=>by
       by_cases ah:k=j
       . subst ah;exact aT
       . exact ar k h (by omega)
      rw [aT];clear aT;generalize l[j].name=x at *
      go_wp2_with (at_builtin;refine pL rfl (.tmp 29) (.tmp 35) 22 rfl w.heap.size 9 _ 1 16 Tryz.underlying22 Tryz.infoStr rfl (by decide) w2 (.slice cF j bW) j ((nJ (l.take j)).map .string) rfl aA #[.string x] _ rfl rfl rfl (str_one x) (by omega) (by decide) (by omega) _ rfl ?_;intro g bo eC ho3;have b:=hid ho3;have bF:=ho3.size;clear ho3)
      go_wp2_with fail;go_roundw
      case rel=>exact ⟨j+1,by omega,by go_num,ai,by unfold qw;rw [aV.out,gn,mq,cv];exact b.own,aM.trans b.below⟩
      case measure=>simp [intOf];omega
    . have ae:Hid (O=gd l[j]):=by
       have ah:=vG l j a0 (fun k N=>ar k (by omega) N) aT;show O=_;rw [aZ.out,if_pos (by rw [ah];exact aT),ah]
      generalize gd l[j]=z at *;go_wp2_with fail;go_ret;exact ⟨by rw [ae.out];rfl,aM⟩
  . obtain rfl : j=ln l:=by omega
    rw [iA] at *
    have B:∀ o ∈ l,gd o=0:=fun o aa=>by
     obtain ⟨i,X,rfl⟩:=kx aa;exact ar i X X
    have aH:=hid B;have b3:=hid (aZ.trans (if_neg (by rw [vF l (fun i h=>ar.out i h h)];exact fun e=>e rfl)));have aJ:=hid (Fx.zr4 cF bW (nJ l) wr (Ex (by unfold qw;rw [cv];exact ce)) (by rw [cv];omega));rw [Ev,Eu,cv] at aJ;have c:=hid F;clear B aZ ar ce F;go_wp2_with fail;go_call aJ as e w2 ⟨rfl,aB⟩;have aM:=hid (es c aB);clear aB aJ c
    by_cases U:(hD l).Nodup
    rotate_left
    . have ae:Hid (O=6):=b3.trans (if_pos U)
      rw [decide_eq_false U];go_wp2_with fail;go_ret;exact ⟨by rw [ae.out];rfl,aM⟩
    have b4:=hid (b3.trans (if_neg (fun h=>h U)));have aF:=hid U;rw [decide_eq_true U];clear U b3;go_wp2_with fail
    go_loopw [6,7] (fun i _ wr=>∃ j:Nat,j<=ln l/\i=em j/\(∀ k,k<j->k5 l k=true)/\et w2 wr) (fun i _ _=>ln l - (intOf i).toNat)
    case atStart=>exact ⟨0,eY _,rfl,fun k h=>absurd h (jU _),Below.refl _ _⟩
    case round =>
     obtain ⟨j,ac,rfl,aO,F⟩:=hrel;have ar:=hid aO;have ad:=hid F;clear aO
     by_cases a0:j<ln l
     . obtain ⟨V,C,E,T,H,bc,aj,b9,al,b7,rfl,bz, -,a9, -, -, -, -, -,aa, -, -⟩:=(aG.later (es aM F)).get j a0
       have bX:=hid aa.uses;have bG:=aa.uses.bound
       have n:Hid (k5 l j=l[j].uses.all (k4 l j)):=by show k5 l j=_;unfold k5;rw [gb a0]
       have bb:(j:Int)<=I:=by omega
       have D:(j:Int)<ln l:=by omega
       have ci:=hid (aG.later (es aM F));clear aa F;generalize l[j]=q at *;go_wp2_with fail
       go_loopw [7] (fun k S=>∃ R d:Nat,R<=ln q.uses/\k=em R/\(∀ y (h:y<ln q.uses),y<R->k4 l j q.uses[y]=true)/\S=wr.drewN d) (fun k _=>ln q.uses - (intOf k).toNat)
       case atStart=>exact ⟨0,0,eY _,rfl,fun y _ h=>absurd h (jU _),rfl⟩
       case round=>
        obtain ⟨S,rfl⟩:∃ q,q=wr:=⟨_,rfl⟩
        obtain ⟨R,d,Q,rfl,hallq,ez⟩:=hrel;have b2:=hid hallq
        have Y:et wr S:=by rw [ez];exact k7 _ _
        have aK:=hid ez;have aU:=hid Y;have bp:=(Y.cell (p:=⟨V,C+j*7+1,none⟩) bz).trans a9;have bl:=Y.size
        have d7:V<S.heap.size:=by omega
        clear hallq ez
        by_cases bV:R<ln q.uses
        . obtain ⟨aL,uo,rfl,bs,huc, -⟩:=(bX.later Y).str R bV
          have b8:=hid ((y7 aF ac q.uses[R]).1);have ao:=hid (fun s=>y6 l K (some (ep V C)) j I q.uses[R] (S.drewN s) (ci.later (es aU (k7 _ _))) ac);have a1:Hid (k4 l j q.uses[R]=decide (0<=kL l j q.uses[R])):=b8.out
          have p:Hid (∀ y (h:y<ln q.uses),y<R+1->y≠R->k4 l j q.uses[y]=true):=fun y h G J=>b2 y h (by omega)
          have bd:(R:Int)<ln q.uses:=by omega
          clear Y
          by_cases a7:kL l j q.uses[R]<0
          . have ae:Hid (O=9):=b4.trans (if_pos (lu (i:=j) a0 (by rw [n.out,rl];exact ⟨q.uses[R],fO _,by rw [a1.out];simp;omega⟩)))
            generalize kL l j q.uses[R]=z at *;generalize q.uses[R]=u at *;go_wp2_with fail
            go_quiet ((go_at_call 108;exact Calls.quiet_of (ao _)))
            go_wp2_with fail;go_ret;exact ⟨by rw [ae.out];rfl,es (es aM ad) (es aU (k7 _ _))⟩
          . have P:Hid (∀ y (h:y<ln q.uses),y<R+1->k4 l j q.uses[y]=true):=fun y h G=>by
             by_cases ah:y=R
             . subst ah;rw [a1.out];exact decide_eq_true (by omega)
             . exact p y h G ah
            generalize kL l j q.uses[R]=z at *;generalize q.uses[R]=u at *;go_wp2_with fail
            go_quiet ((go_at_call 108;exact Calls.quiet_of (ao _)))
            go_wp2_with fail;go_roundw
            case rel=>exact ⟨R+1,_,by omega,by go_num,P,by rw [aK.out,vP]⟩
            case measure=>simp [intOf];omega
        . obtain rfl:R=ln q.uses:=by omega
          have P:Hid (k5 l j=true):=by
           show k5 l j=true;rw [n.out,hJ];intro u aI;obtain ⟨y,az,rfl⟩:=kx aI;exact b2 y az az
          clear Y;go_wp2_with fail;go_roundw
          case rel=>exact ⟨j+1,by omega,by go_num,lw ar P,es ad aU⟩
          case measure=>simp [intOf];omega
     . obtain rfl:j=ln l:=by omega
       have cw:Hid (ny l=true):=iO.2 ar;have bv:=hid (b4.trans (if_neg (by rw [cw.out];decide)));have aP:=hid (es aM F);clear b4 ar F;go_wp2_with fail
       obtain ⟨eJ,rfl⟩:∃ q,q=wr:=⟨_,rfl⟩
       go_loopw [8,9,10] (fun i _ _ wr=>∃ j:Nat,j<=ln l/\i=em j/\(∀ k,k<j->mc l k=true)/\et w wr) (fun i _ _ _=>ln l - (intOf i).toNat)
       case atStart=>exact ⟨0,eY _,rfl,fun k h=>absurd h (jU _),aP⟩
       case round=>
        obtain ⟨j,ac,rfl,aO,F⟩:=hrel;have ar:=hid aO;have ad:=hid F;clear aO
        by_cases a0:j<ln l
        . obtain ⟨V,C,E,T,H,bc,aj,b9,al,b7,rfl,bz, -, -, -,c3,am, -, -,aa, -, -⟩:=(aG.later F).get j a0
          have n:Hid (mc l j=ju (ln l[j].fixes) (jw l l[j])):=by show mc l j=_;unfold mc;rw [gb a0]
          have bX:=hid aa;have dH:=aa.fixes.bound;have cj:=hid (fun (R:Nat) (Q:R<ln l[j].fixes)=>rU (aH l[j] (fO a0)) Q);have co:=hid (fun (m:Int) (a3:0<=m) (G:m<=ln l[j].uses)=>(tn (tt aF cw) a0 a3 G).2);have dj:=hid (fun (m:Int) (a3:0<=m) (G:m<=ln l[j].uses) (M:World) (L:jM M (some (ep V C)) l K)=>y9 l K (some (ep V C)) I M L ay aF cw j a0 m a3 G);have ci:=hid (aG.later F)
          have D:(j:Int)<ln l:=by omega
          clear F aa;generalize l[j]=q at *;go_wp2_with fail
          go_loopw [9,10] (fun k _ S=>∃ R:Nat,R<=ln q.fixes/\k=em R/\(∀ y,y<R->jw l q y=true)/\et wr S) (fun k _ _=>ln q.fixes - (intOf k).toNat)
          case atStart=>exact ⟨0,eY _,rfl,fun k h=>absurd h (jU _),Below.refl _ _⟩
          case round=>
           obtain ⟨S,rfl⟩:∃ q,q=wr:=⟨_,rfl⟩
           obtain ⟨R,Q,rfl,hallq,aB⟩:=hrel;have b2:=hid hallq;have aM:=hid aB;have a8:=hid (es ad aB);have t:=(aB.cell (p:=⟨V,C+j*7+3,none⟩) bz).trans c3;have dU:=(aB.cell (p:=⟨V,C+j*7+4,none⟩) bz).trans am;have bl:=aB.size
           have d7:V<S.heap.size:=by omega
           clear hallq
           by_cases bV:R<ln q.fixes
           . obtain ⟨ch,fo,rfl,hfx⟩:=((bX.later aB).fixes).gf R bV
             obtain ⟨cL,fr2,fr3,fr4,fr5,fr6,fr7⟩:=cj R bV;have c6:=co q.fixes[R].m fr6 fr7
             have p:Hid (jw l q R=kI l q q.fixes[R]):=by show jw l q R=_;unfold jw;rw [gb bV]
             obtain ⟨cr,bM,ax,bh, -, -, -⟩:=hfx;have bL:=hid (fun M L=>dj q.fixes[R].m fr6 fr7 M L);generalize q.fixes[R]=f at *
             obtain ⟨y,az⟩:∃ y:Nat,f.at_=y:=⟨f.at_.toNat,by omega⟩
             have c1:y<ln q.code:=by omega
             obtain ⟨bi,ag,rfl,bk⟩:=((bX.later aB).code).gi y c1;obtain ⟨aW, -,bR, -, -, -, -⟩:=bk
             have ak:Hid (jl q f.at_=q.code[y].a):=by show jl q f.at_=_;rw [az];exact tp c1
             have dI:(y:Int)<ln q.code:=by omega
             have b0:=bX.code.bound;rw [az] at bM;generalize q.code[y].a=A at *;obtain ⟨bB,cf,_,_,_,_,_,_,bQ,bU,bx,hlb3, -, -, -, -, -,c0, -,be, -, -⟩:=(ci.later aB).get (f7 l q f.m) c6
             injection bx with bx
             injection bx with aw aE _
             subst aw aE;have cb:=be.entries.bound;have b1:Hid (jm l (f7 l q f.m)=l[f7 l q f.m].entries):=p2 c6
             obtain ⟨Z,bn⟩:∃ Z,Z=S.alloc (.cells #[em y,em f.kind,em f.m] 67):=⟨_,rfl⟩
             have a5:et S Z:=by rw [bn];exact ey _ _
             have aN:=hid bn
             have cd:Z.heap[S.heap.size]? = some (.cells #[em y,em f.kind,em f.m] 67):=by rw [bn];exact eT _ _
             have de:Z.heap.size=S.heap.size+1:=by rw [bn];simp
             obtain ⟨av,an,aD⟩:=rV cd;have a6:=(a5.cell (p:=⟨V,C+j*7+3,none⟩) d7).trans t;have bg:=(a5.cell (p:=⟨bi,ag+y*3+1,none⟩) aW).trans bR;have bj:=(a5.cell (p:=⟨V,C+f7 l q f.m*7+5,none⟩) d7).trans c0;have bY:=hid (aB.trans (a5.mono aB.size));have aY:=hid (fun s=>bL (Z.drewN s) (ci.later (es bY (k7 Z s))))
             have ap:V<Z.heap.size:=by omega
             have bq:bi<Z.heap.size:=by omega
             have dE:((f7 l q f.m:Nat):Int)<ln l:=by omega
             clear aB a5 bn cd t bR c0 c3 am be;generalize af:ln l[f7 l q f.m].entries=bZ at *
             have d0:Hid (kI l q f = !(decide (f.kind=2)&&decide ((bZ:Int)<=A))):=by show kI l q f=_;unfold kI;rw [ak.out,b1.out,af]
             clear cj co dj bL b1 ak bX ci af az cL fr2 fr3 fr4 fr5 fr6 fr7 c6;generalize f7 l q f.m=mo at *;go_upto_region 28 with fail;rw [← aN.out]
             by_cases au:f.kind=2
             . have d6:(f.kind == 2)=true:=by simp [au]
               by_cases aS:(bZ:Int)<=A
               . have ae:Hid (O=5):=bv.trans (if_pos (lu (i:=j) a0 (n.trans (lu (i:=R) bV (p.trans (d0.trans (by simp [au,aS])))))))
                 have b6:decide ((bZ:Int)<=A)=true:=decide_eq_true aS;clear au
                 go_quiet ((go_at_call 105;exact Calls.quiet_of (aY _)))
                 go_wp2_with fail;go_ret;exact ⟨by rw [ae.out];rfl,es ad (es bY (k7 _ _))⟩
               . have ae:Hid (jw l q R=true):=p.trans (d0.trans (by simp [aS]))
                 have b6:decide ((bZ:Int)<=A)=false:=decide_eq_false aS;clear au
                 go_quiet ((go_at_call 105;exact Calls.quiet_of (aY _)))
                 go_wp2_with fail;go_roundw
                 case rel=>exact ⟨R+1,by omega,by go_num,lw b2 ae,es bY (k7 _ _)⟩
                 case measure=>simp [intOf];omega
             . have ae:Hid (jw l q R=true):=p.trans (d0.trans (by simp [au]))
               have d6:(f.kind == 2)=false:=by simp [au]
               clear au
               go_quiet (fail)
               go_wp2_with fail;go_roundw
               case rel=>exact ⟨R+1,by omega,by go_num,lw b2 ae,es bY (k7 _ _)⟩
               case measure=>simp [intOf];omega
           . obtain rfl:R=ln q.fixes:=by omega
             have P:Hid (mc l j=true):=n.trans (iO.2 b2);clear aB;go_wp2_with fail;go_roundw
             case rel=>exact ⟨j+1,by omega,by go_num,lw ar P,a8⟩
             case measure=>simp [intOf];omega
        . obtain rfl:j=ln l:=by omega
          have ae:Hid (O=0):=bv.trans (if_neg (by rw [show o0 l=true from iO.2 ar.out];decide));have cx:=hid F;clear F;go_wp2_with fail;go_ret;exact ⟨by rw [ae.out];rfl,cx⟩
def qd (l:List eO) (j:Nat):List Int:=(List.range j).map fun k=>(ln l:Int)+1+gJ (l.take k)
def qe (l:List eO) (j:Nat):List Int:=(List.range j).map fun k=>gv (l.take k)
theorem Ey (l:List eO) (j:Nat):intV (qd l (j+1))=intV (qd l j)++[em ((ln l:Int)+1+gJ (l.take j))]:=by
 unfold qd intV;rw [sx];simp
theorem Ez (l:List eO) (j:Nat):intV (qe l (j+1))=intV (qe l j)++[em (gv (l.take j))]:=by
 unfold qe intV;rw [sx];simp
theorem v2 (f:Nat->Int) (h:w.ownsRow B 3 1 (.slice (some (ep g 0)) n I) n (intV ((List.range n).map f))):g<w.heap.size/\∀ k,k<n->w.cell? (ep g k)=some (em (f k)):=by
 refine ⟨(h.lt g rfl).2,fun k N=>?_⟩;have:=h.cells (g:=g) rfl k (em (f k)) (by simp [intV,N]);rwa [rX,hv] at this
theorem int_one (x:Int):∀ u ∈ (#[Value.int .i64 x]:Array Value).toList,u.oneCell'=true:=fun u aI=>by
 have:u=em x:=by simpa using aI
 subst this
 rfl
theorem zK {k:Nat} (h:w.ownsRow B e p v n ae) (N:v.ownBlock=some k):∃ q,w.heap[k]? = some q:=⟨_,qo (h.lt k N).2⟩
theorem pK.keep {size:Nat} (h:pK w r B e size v n g I ae) {B':Nat} {e':TypeId} {u:Value} {M:List Value} (W:w.ownsRow B' e' p u m M) (U:∀ k,u.ownBlock=some k->v.ownBlock≠some k):r.ownsRow B' e' p u m M:=
 il W fun k N=>by
  obtain ⟨q,Q⟩:=zK W N;rw [h.old k q Q (U k N),Q]
theorem zL {cp:Nat} (W:w.ownsRow B e p d n ae) (U:∀ k,d.ownBlock=some k->c.ownBlock≠some k) (ab:c.ownBlock=some g\/w.heap.size<g):∀ k,d.ownBlock=some k->(Value.slice (some (ep g 0)) m cp).ownBlock≠some k:=fun k N A=>by
 have G:g=k:=fe A;have J:=(W.lt k N).2
 rcases ab with h | h
 . exact U k N (by rw [h,G])
 . omega
structure Lk (w:World) (B:Nat) (l:List eO) (c d:Value) (M:Nat) (v:Value) (cs:List fM):Prop where
 cr:w.ownsRow B 3 1 c (ln l) (intV (qd l (ln l)))
 dr:w.ownsRow B 3 1 d (ln l) (intV (qe l (ln l)))
 mr:w.heap[M]? = some (.cells #[v,em (gv l)] 81 (0,0))
 vr:w.ownsRow B 69 3 v (ln cs) (gj cs)
 nc:c.ownBlock≠some M
 nd:d.ownBlock≠some M
 nv:v.ownBlock≠some M
 vc:∀ k,c.ownBlock=some k->v.ownBlock≠some k
 vd:∀ k,d.ownBlock=some k->v.ownBlock≠some k
theorem Lk.later (h:Lk w B l c d b v cs) (F:et w r):Lk r B l c d b v cs:=
 ⟨ownsRow_later h.cr F,ownsRow_later h.dr F,(F.block _ (lt_of_heap h.mr)).trans h.mr,ownsRow_later h.vr F,h.nc,h.nd,h.nv,h.vc,h.vd⟩
theorem Lk.step {v':Value} {cs':List fM} (h:Lk w B l c d b v cs) (s:∀ (V:Nat) (q:Obj),w.heap[V]? = some q->v.ownBlock≠some V->r.heap[V]? = some q) (ba:r.ownsRow B 69 3 v' (ln cs') (gj cs')) (a5:v'.ownBlock=v.ownBlock\/∃ k,v'.ownBlock=some k/\w.heap.size<=k):Lk (r.setCell (ep b 0) v') B l c d b v' cs':=by
 have aT:=lt_of_heap h.mr
 have aV:v'.ownBlock≠some b:=fun e=>by
  rcases a5 with A | ⟨k,A,N⟩
  . exact h.nv (A.symm.trans e)
  . rw [A] at e;have:=fe e;omega
 have N:∀ {e:TypeId} {u:Value} {n:Nat} {M:List Value},w.ownsRow B e 1 u n M->u.ownBlock≠some b->(∀ k,u.ownBlock=some k->v.ownBlock≠some k)->(r.setCell (ep b 0) v').ownsRow B e 1 u n M/\∀ k,u.ownBlock=some k->v'.ownBlock≠some k:=fun W G J=>by
  refine ⟨il W fun k N=>?_,fun k N e=>?_⟩
  . obtain ⟨q,Q⟩:=zK W N
    rw [fa (p:=(ep b 0)) (by show k≠b;intro e;exact G (by rw [N,e])),s k q Q (J k N),Q]
  . rcases a5 with A | ⟨j,A,ac⟩
    . exact J k N (A.symm.trans e)
    . have:=(W.lt k N).2
      rw [A] at e;have:=fe e;omega
 obtain ⟨a9,a4⟩:=N h.cr h.nc h.vc;obtain ⟨aL,aU⟩:=N h.dr h.nd h.vd;exact ⟨a9,aL,heap_set (s b _ h.mr h.nv) _,il ba (fun k N=>fa (p:=(ep b 0)) (by show k≠b;intro e;exact aV (by rw [N,e])) _),h.nc,h.nd,aV,a4,aU⟩
theorem Lk.start (ab:B<=w.heap.size) (a1:w.ownsRow B 3 1 c (ln l) (intV (qd l (ln l)))) (ez:w.ownsRow B 3 1 d (ln l) (intV (qe l (ln l)))) :
 Lk (w.alloc (.cells #[eu,em (gv l)] 81)) B l c d w.heap.size (eu) []:=
 ⟨ownsRow_later a1 (ey _ _),ownsRow_later ez (ey _ _),eT _ _,ko _ _ _ _,fun e=>by have:=(a1.lt _ e).2;omega,fun e=>by have:=(ez.lt _ e).2;omega,fun e=>(by cases e),fun k _ e=>(by cases e),fun k _ e=>(by cases e)⟩
theorem EA (h:w.heap[g]? = some (.cells #[] 69)) (F:Y<=g):w.ownsRow Y 69 3 (.slice (some (ep g 0)) 0 0) 0 []:=
 ⟨rfl,Or.inr ⟨g,0,#[],rfl,F,h,eD _,eY _,rfl,rfl⟩⟩
theorem Lk.putC (h:Lk w B l c d b v cs) (U:ln cs=n) {i:fM} (aa:pK w r B 69 3 v n g I (gj cs++kj i)) :
 r.cell? (ep b 0)=some v/\r.frozen? (ep b 0)=false/\b<r.heap.size/\Lk (r.setCell (ep b 0) (.slice (some (ep g 0)) (n+1) I)) B l c d b (.slice (some (ep g 0)) (n+1) I) (cs++[i]):=by
 subst U;have F:=aa.old b _ h.mr h.nv;refine ⟨by rw [fU F];rfl,ih F 0,lt_of_heap F,?_⟩;refine h.step aa.old ?_ (aa.at_.imp (fun e=>e.symm) (fun e=>⟨g,rfl,by omega⟩));rw [uR,gn];exact aa.own
theorem EB {o:eO} (h:gd o=0) (ac:j<ln o.fixes) (ak:o.fixes[j].kind=1):o.fixes[j].m=0:=by
 obtain ⟨_,_,_,ag⟩:=qS h;have:=iO.1 ag j ac;unfold kl at this;rw [gb ac] at this;simp only [fs] at this;obtain ⟨_,_,F⟩:=this;unfold mL at F;rw [if_pos ak] at F;unfold hb at F;simp only [fs,decide_eq_true_eq] at F;omega
theorem EC (l:List eO) (o:eO) (f:gQ) (j:Nat) (A:Int) (aS:jl o f.at_=A) (G:f.kind=1->f7 l o f.m=j) :
 (f.kind=1->nB l o f=(ln l:Int)+1+gJ (l.take j)+A)/\(f.kind=2->nB l o f=(ln l:Int)+1+gJ (l.take (f7 l o f.m))+(jm l (f7 l o f.m)).getD A.toNat 0)/\(f.kind=3->nB l o f=gv (l.take (f7 l o f.m))+A):=by
 unfold nB ma;rw [aS];refine ⟨fun k=>?_,fun k=>?_,fun k=>?_⟩
 . rw [if_neg (by omega),if_neg (by omega),G k]
 . rw [if_pos k]
 . rw [if_neg (by omega),if_pos k]
theorem ED (cG:v1) (l:List eO) (K:Nat->Value) (a:OA) (I:Nat) (w:World) (aQ:jM w a l K) (ay:ln l<=I) :
 ew 41 #[.slice a (ln l) I] w fun e r=>tw w.heap.size (kK l) e r/\et w r:=by
 have bC:=aQ.bound;have aG:=hid aQ;have ao:=hid (zJ cG l K a I (w.alloc (.cells #[eu,em 0] 81)) (aQ.later (ey _ _)) ay);clear aQ cG
 obtain ⟨O,W⟩:∃ O,O=kK l:=⟨_,rfl⟩
 rw [← W];unfold kK at W;have z:=hid W;clear W;go_enter func41,ntmps41;go_wp2_with fail;go_call ao as e eq ⟨rfl,ai⟩;have B:=hid (es (ey w _) ai);have c2:=hid ((ai.block w.heap.size (by simp)).trans (eT w (.cells #[eu,em 0] 81)));have b0:=ai.size;simp at b0;obtain ⟨bg,b2,rf⟩:=jy c2;have c8:=lt_of_heap c2;clear ai ao
 by_cases ah:jx l=0
 rotate_left
 . have ae:Hid (O = .error (jx l)):=z.trans (if_pos ah)
   generalize jx l=z at *;have cD:=hid ah;go_wp2_with fail;refine bodyPost_ret (v:=.tuple #[.agg #[eu,em 0],em z]) (by simp [results,results41,go_sem,bg,b2,c8]) rfl ⟨by rw [ae.out];exact ⟨rfl,cD⟩,?_⟩;exact (B.setCell (p:=(ep w.heap.size 0)) (eD _) _).setCell (p:=(ep w.heap.size 1)) (eD _) _
 obtain ⟨ak,au,aI,bq,c9,k6⟩:=yZ ah;have aZ:=hid (z.trans (if_neg (fun h=>h ah)));have aH:=hid aI;have aF:=hid (vI au aI);have d2:=hid bq
 have cX:Hid (vz l):=⟨fun o aa=>by have:=yY (aI o aa);have:=vH (aI o aa);omega,bq⟩
 have cw:=hid c9;have cs:=hid k6;rw [ah];clear z aI bq c9 k6 ah bg b2 rf;go_wp2_with fail
 go_loopw [5,6,7,8,9] (fun c d y R i wr=>∃ j:Nat,j<=ln l/\i=em j/\y=em ((ln l:Int)+1+gJ (l.take j))/\R=em (gv (l.take j))/\wr.ownsRow eq.heap.size 3 1 c j (intV (qd l j))/\wr.ownsRow eq.heap.size 3 1 d j (intV (qe l j))/\(∀ k,d.ownBlock=some k->c.ownBlock≠some k)/\et eq wr) (fun _ _ _ _ i _=>ln l - (intOf i).toNat)
 case atStart=>exact ⟨0,eY _,rfl,by simp [gJ],by simp [gv],ko _ _ _ _,ko _ _ _ _,fun k N=>(by cases N),Below.refl _ _⟩
 case round =>
  obtain ⟨j,ac,rfl,rfl,rfl,a1,ez,U,F⟩:=hrel;obtain ⟨aA,a8,rfl, -, -⟩:=im a1;obtain ⟨Y,dx,rfl, -, -⟩:=im ez;have cY:=hid a1;have d4:=hid ez;have dA:=hid U;have ad:=hid F;have bN:=F.size;have c7:=nw aF j ac;clear U a1 ez
  by_cases a0:j<ln l
  . obtain ⟨V,C,E,T,H,bc,aj,b9,al,b7,rfl,bz, -, -,a4,c3, -, -, -, -, -, -⟩:=aG.get j a0
    have aN:=hid (fun M (L:et w M)=>(⟨gl bz L.size,(L.cell (p:=⟨V,C+j*7+2,none⟩) bz).trans a4,(L.cell (p:=⟨V,C+j*7+3,none⟩) bz).trans c3⟩:V<M.heap.size/\M.cell? ⟨V,C+j*7+2,none⟩=some (em l[j].data)/\M.cell? ⟨V,C+j*7+3,none⟩=some (.slice H (ln l[j].code) bc)));obtain ⟨dr,dh,du,dB⟩:=aF.2 l[j] (fO a0);have dW:=hid (te a0);have df:=hid (tg a0);have e2:=hid (Ey l j);have di:=hid (Ez l j);clear a4 c3 F;generalize (ln l[j].code)=e3 at *;generalize l[j].data=cJ at *;generalize gJ (l.take j)=bT at *;generalize gv (l.take j)=cO at *
    go_wp2_with (at_builtin;first
     | (refine pL rfl (.tmp 33) (.tmp 35) 49 rfl eq.heap.size 3 _ 1 8 Tryz.underlying49 Tryz.infoInt rfl (by decide) wr (.slice aA j a8) j (intV (qd l j)) rfl cY #[em ((ln l:Int)+1+bT)] _ rfl rfl rfl (int_one _) (by omega) (by decide) (by omega) _ rfl ?_;intro g bo w2 aa;have bA:=hid aa.own;have cR:=hid (aa.keep d4 dA);have aM:=hid (ad.trans aa.below);have cH:Hid (∀ k,(Value.slice Y j dx).ownBlock=some k->(Value.slice (some (ep g 0)) (j+1) bo).ownBlock≠some k):=zL d4 dA aa.at_;have bl:=aa.size;clear aa)
     | (refine pL rfl (.tmp 37) (.tmp 39) 49 rfl eq.heap.size 3 _ 1 8 Tryz.underlying49 Tryz.infoInt rfl (by decide) w2 (.slice Y j dx) j (intV (qe l j)) rfl cR #[.int .i64 cO] _ rfl rfl rfl (int_one _) (by omega) (by decide) (by omega) _ rfl ?_;intro bs aX eC aa;have dd:=hid aa;have bI:=hid (aa.keep bA (fun k N e=>cH k e N));have aP:=hid (aM.trans aa.below);have d8:Hid (∀ k,(Value.slice (some ⟨bs,0,none⟩) (j+1) aX).ownBlock=some k->(Value.slice (some ⟨g,0,none⟩) (j+1) bo).ownBlock≠some k):=fun k N e=>zL bA (fun k h e=>cH k e h) aa.at_ k e N;have bF:=aa.size;obtain ⟨ap,a4,c3⟩:=aN eC (es B aP);clear aa))
    go_wp2_with fail;go_roundw
    case rel=>exact ⟨j+1,by omega,by go_num,by rw [dW.out];congr 1;omega,by rw [df.out],by rw [e2.out];exact bI,by rw [di.out];exact dd.own,d8,aP⟩
    case measure=>simp [intOf];omega
  . obtain rfl : j=ln l:=by omega
    rw [iA] at *;have cz:=tv l (ln l) (eD _);rw [iA] at cz;have cx:=hid (es B F);have cc:=hid ((F.block _ c8).trans c2);obtain ⟨bg,b2,rf⟩:=jy cc;have c8:=lt_of_heap cc
    obtain ⟨eA,rfl⟩:∃ q,q=wr:=⟨_,rfl⟩
    clear F;generalize ca:(gK l (ln l)).length=cK at *;have x:=hid ca;clear ca
    by_cases ax:2048<cK
    . have ae:Hid (O = .error 2):=aZ.trans (if_pos (Or.inl ax))
      have dn:(2048:Int)<(ln l:Int)+1+gJ l:=by omega
      generalize gJ l=bT at *;generalize gv l=cO at *;go_wp2_with fail;refine bodyPost_ret (v:=.tuple #[.agg #[eu,em 0],em 2]) (by simp [results,results41,go_sem,bg,b2,c8]) rfl ⟨by rw [ae.out];exact ⟨rfl,by decide⟩,?_⟩;exact (cx.setCell (p:=(ep w.heap.size 0)) (eD _) _).setCell (p:=(ep w.heap.size 1)) (eD _) _
    by_cases bh:512<gv l
    . have ae:Hid (O = .error 2):=aZ.trans (if_pos (Or.inr bh))
      have dn:¬ ((2048:Int)<(ln l:Int)+1+gJ l):=by omega
      generalize gJ l=bT at *;generalize gv l=cO at *;go_wp2_with fail;refine bodyPost_ret (v:=.tuple #[.agg #[eu,em 0],em 2]) (by simp [results,results41,go_sem,bg,b2,c8]) rfl ⟨by rw [ae.out];exact ⟨rfl,by decide⟩,?_⟩;exact (cx.setCell (p:=(ep w.heap.size 0)) (eD _) _).setCell (p:=(ep w.heap.size 1)) (eD _) _
    have ae:Hid (O = .ok (gK l (ln l),gv l)):=aZ.trans (if_neg (by omega))
    have dn:¬ ((2048:Int)<(ln l:Int)+1+gJ l):=by omega
    obtain ⟨dG,cx1,cu, -, -⟩:=p3 cY (by omega:0<ln l);obtain ⟨dy,dx1,ed, -, -⟩:=p3 d4 (by omega:0<ln l)
    injection cu with aw aE b4
    subst aw b4
    injection ed with aw aE b4
    subst aw b4
    obtain ⟨b,aT⟩:∃ b,b=eA.heap.size:=⟨_,rfl⟩
    obtain ⟨Z,bn⟩:∃ Z,Z=eA.alloc (.cells #[eu,em (gv l)] 81):=⟨_,rfl⟩
    have dO:=hid bn
    have dq:Hid (Lk Z eq.heap.size l (.slice (some (ep dG 0)) (ln l) a8) (.slice (some (ep dy 0)) (ln l) dx) b (eu) []):=by rw [bn,aT];exact Lk.start bN cY d4
    have b1:Hid (et eq Z):=by rw [bn];exact ad.trans ((ey eA _).mono bN)
    have dp:eq.heap.size<=b:=by omega
    have bL:=hid aT;clear bn aT bg b2 rf cz x cY d4 dA;go_upto_region 16 with fail;rw [← dO.out,← bL.out];clear dO bL;go_wp2_with fail
    go_loopw [11] (fun i wr=>∃ (j:Nat) (v:Value),j<=ln l/\i=em j/\Lk wr eq.heap.size l (.slice (some (ep dG 0)) (ln l) a8) (.slice (some (ep dy 0)) (ln l) dx) b v (kJ l j)/\et eq wr) (fun i _=>ln l - (intOf i).toNat)
    case atStart=>exact ⟨0,_,eY _,rfl,dq,b1⟩
    case round =>
     obtain ⟨j,v,ac,rfl,N,F⟩:=hrel;have a7:=N.vr;rw [rW] at a7;obtain ⟨cF,bW,rfl, -, -⟩:=im a7;obtain ⟨bE, -, -⟩:=jy N.mr;have cC:=lt_of_heap N.mr;have bb:=hid F;have dc:=F.size
     by_cases a0:j<ln l
     . obtain ⟨V,C,E,T,H,bc,aj,b9,al,b7,rfl,bz, -, -, -, -, -, -,aR, -, -, -⟩:=(aG.later (es B F)).get j a0
       have a6:=hid (N.later (ix wr));have ds:=hid (ownsRow_later a7 (ix wr));obtain ⟨cP,hgc⟩:=v2 _ N.cr;have dY:=hgc j a0;have c7:=nw aF j ac;obtain ⟨cM,cg⟩:=cX.main l[j] (fO a0);have d1:=hid (yT a0);have dN:=aF.1;clear N F a7 hgc;generalize l[j].main=mn at *;generalize gJ (l.take j)=bT at *;generalize gv (l.take j)=n at *;have b8:IntKind.i64.wrap ((ln l:Int)+1+bT+mn)=(ln l:Int)+1+bT+mn:=nx (by omega) (by omega);go_upto_region 19 with fail
       go_region_law (first | (refine xZ rfl (.tmp 72) (.tmp 84) 59 rfl eq.heap.size 69 _ 3 24 Tryz.underlying59 Tryz.infoInstr rfl (by decide) wr.drew (.slice cF j bW) j (gj (kJ l j)) rfl ds #[em 13,em ((ln l:Int)+1+bT+mn),em 0] _ (by simp) rfl rfl (qO ⟨13,_,0⟩) (by omega) (by decide) dc _ rfl ?_;intro bs aX eJ aa;obtain ⟨b5,aL,aU,hk5⟩:=a6.putC (rW l j) (i:=⟨13,_,0⟩) aa;have ar:=hid hk5;have bO:=hid ((bb.drew.trans aa.below).setCell (p:=(ep b 0)) dp (.slice (some (ep bs 0)) (j+1) aX));clear aa hk5))
       all_goals
        go_wp2_with fail;go_roundw
        case rel=>exact ⟨j+1,_,by omega,by go_num,by rw [yS,d1.out];exact ar,bO⟩
        case measure=>simp [intOf];omega
     . obtain rfl:j=ln l:=by omega
       have a6:=hid N;have ds:=hid a7;have dN:=aF.1
       obtain ⟨eZ,rfl⟩:∃ q,q=wr:=⟨_,rfl⟩
       clear N F a7
       go_wp2_with (at_builtin;refine pL rfl (.tmp 88) (.tmp 90) 59 rfl eq.heap.size 69 _ 3 24 Tryz.underlying59 Tryz.infoInstr rfl (by decide) eZ (.slice cF (ln l) bW) (ln l) (gj (kJ l (ln l))) rfl ds #[em 20,em 0,em 0] _ rfl rfl rfl (qO ⟨20,0,0⟩) (by omega) (by decide) dc _ rfl ?_;intro ck aR eW aa;obtain ⟨b5,aL,aU,hk7⟩:=a6.putC (rW l _) (i:=⟨20,0,0⟩) aa;have aJ:=hid hk7;have bD:=hid ((bb.trans aa.below).setCell (p:=(ep b 0)) dp (.slice (some (ep ck 0)) (ln l+1) aR));clear aa hk7)
       go_upto_region 21 with fail;generalize eW.setCell (ep b 0) (.slice (some (ep ck 0)) (ln l+1) aR)=aY at *
       have dQ:Hid (gK l 0=kJ l (ln l)++[⟨20,0,0⟩]):=by show gK l 0=_;simp [gK]
       clear b5 aL aU bE cC ds a6 bb dc;go_wp2_with fail
       go_loopw [12,13,14,15,16,17] (fun i _ _ _ _ _ wr=>∃ (j:Nat) (v:Value),j<=ln l/\i=em j/\Lk wr eq.heap.size l (.slice (some (ep dG 0)) (ln l) a8) (.slice (some (ep dy 0)) (ln l) dx) b v (gK l j)/\et eq wr) (fun i _ _ _ _ _ _=>ln l - (intOf i).toNat)
       case atStart=>exact ⟨0,_,eY _,rfl,by rw [dQ.out];exact aJ,bD⟩
       case round=>
        obtain ⟨j,v,ac,rfl,N,F⟩:=hrel;have a7:=N.vr;obtain ⟨cF,bW,rfl, -, -⟩:=im a7;have a6:=hid N;have af:=hid F;have dc:=F.size
        by_cases a0:j<ln l
        . obtain ⟨V,C,E,T,H,bc,aj,b9,al,b7,rfl,bz, -, -, -,c3,am, -, -,aa, -, -⟩:=(aG.later (es B F)).get j a0
          obtain ⟨dr,dh,du,dB⟩:=aF.2 l[j] (fO a0);have cA:=aH l[j] (fO a0);have dH:=aa.fixes.bound;have cz:=tv l j ac;have ec:=nw aF j ac;have bX:=hid aa;have d9:=hid (tt d2 cw);have cj:=hid (fun (R:Nat) (Q:R<ln l[j].fixes)=>rU cA Q);have dC:=hid (fun (R:Nat) (Q:R<ln l[j].fixes)=>vC cA Q);have dX:=hid (fun (R:Nat) (Q:R<ln l[j].fixes)=>EB cA Q);have dk:=hid (fun (R y:Nat) (G:R<=ln l[j].fixes) (J:lx l[j] R<y)=>vD l cA R y G J);have co:=hid (fun (m:Int) (a3:0<=m) (G:m<=ln l[j].uses)=>(tn d9 a0 a3 G).2);have cU:=hid (fun (R:Nat) (Q:R<ln l[j].fixes)=>yV cs a0 Q);have dj:=hid (fun (m:Int) (a3:0<=m) (G:m<=ln l[j].uses) (M:World) (L:jM M (some (ep V C)) l K)=>y9 l K (some (ep V C)) I M L ay d2 cw j a0 m a3 G)
          have e0:=hid (y8 d2 a0);have ci:=hid (aG.later (es B F));have cy:=hid (vK l a0);have dN:=aF.1;have dt:=ey wr (.cells #[] 69);generalize l[j]=q at *
          obtain ⟨aK,bd,cl,aW,cW,hat1⟩:=rY (wr.alloc (.cells #[] 69)) wr.heap.size 59 (.slice (some (ep wr.heap.size 0)) 0 0) [] (EA (eT _ _) (eD _)) H bc q.code (fun U=>by
           obtain ⟨bi,ag,rfl,_⟩:=(bX.later dt).code.gi 0 (by omega);refine ⟨bi,ag,rfl,fun i X=>?_⟩;obtain ⟨dZ,co',e,a2,bw,bR,i2,_⟩:=(bX.later dt).code.gi i X
           cases e
           exact ⟨bw,bR,i2⟩) (by simp;omega) (by simp)
          rw [w4,qt,hv] at aW;obtain ⟨g,bP,rfl,hgB,cP⟩:=p3 aW (by omega);have bK:et wr bd:=dt.grown cW (by simp) (fun k N=>by have h:wr.heap.size=k:=fe N;omega);have bf:=hid cl;have aq:=hid aW;have bu:=hid bK;have cn:=bK.size;clear cl aW cW hat1 bK dt F N a7 aa
          go_wp2_with (at_builtin;refine Lib.wpList_append_run _ rfl _ _ _ _ rfl _ _ rfl rfl _ bd bf ?_)
          go_loopw [14,15,16,17] (fun k _ _ _ S=>∃ R:Nat,R<=ln q.fixes/\k=em R/\S.ownsRow wr.heap.size 69 3 (.slice (some (ep g 0)) (ln q.code) bP) (ln q.code) (gj (gT l q R))/\et wr S) (fun k _ _ _ _=>ln q.fixes - (intOf k).toNat)
          case atStart=>exact ⟨0,eY _,rfl,aq,bu⟩
          case round=>
           obtain ⟨S,rfl⟩:∃ q,q=wr:=⟨_,rfl⟩
           obtain ⟨R,Q,rfl,ba,aB⟩:=hrel;have ce:=hid ba;have aM:=hid aB;have bl:=aB.size;have dU:=(aB.cell (p:=⟨V,C+j*7+4,none⟩) bz).trans am
           have d7:V<S.heap.size:=by omega
           have e5:=(ba.lt g rfl).2;have dT:=(ba.lt g rfl).1
           by_cases bV:R<ln q.fixes
           . obtain ⟨ch,fo,rfl,hfx⟩:=((bX.later aB).fixes).gf R bV
             obtain ⟨cL,fr2,fr3,fr4,fr5,fr6,fr7⟩:=cj R bV;have c6:=co q.fixes[R].m fr6 fr7;obtain ⟨cr,bM,ax,bh, -, -, -⟩:=hfx;have bL:=hid (fun M L=>dj q.fixes[R].m fr6 fr7 M L);have dF:=hid (vB l q bV);have d0:=hid (cU R bV);have cB:=dC R bV;have e4:=hid (fun ak=>dX R bV ak);generalize q.fixes[R]=f at *
             obtain ⟨y,az⟩:∃ y:Nat,f.at_=y:=⟨f.at_.toNat,by omega⟩
             have c1:y<ln q.code:=by omega
             have d3:y<(gT l q R).length:=by rw [kn];exact c1
             have cT:=dk R y (by omega) (by omega)
             have dl:jl q f.at_=(gT l q R)[y].a:=by
              have:(gT l q R)[y]=q.code[y]:=by
               rw [gb d3,gb c1] at cT;exact fe cT
              show jl q f.at_=_;rw [this,az];exact tp c1
             have ab:=hid (EC l q f j _ dl (fun ak=>by rw [e4.out ak];exact e0))
             have bG:Hid (f.kind=2->(gT l q R)[y].a<(jm l (f7 l q f.m)).length):=fun au=>by
              have G:kI l q f=true:=d0.out;unfold kI at G;rw [dl] at G;simp [au] at G;exact G
             have dI:(y:Int)<ln q.code:=by omega
             rw [dl] at fr4 fr5;rw [az] at bM
             obtain ⟨Z,bn⟩:∃ Z,Z=S.alloc (.cells #[em y,em f.kind,em f.m] 67):=⟨_,rfl⟩
             have a5:et S Z:=by rw [bn];exact ey _ _
             have aN:=hid bn
             have de:Z.heap.size=S.heap.size+1:=by rw [bn];simp
             have cd:Z.heap[S.heap.size]? = some (.cells #[em y,em f.kind,em f.m] 67):=by rw [bn];exact eT _ _
             have bY:=hid (aB.trans (a5.mono aB.size));have aO:=hid (bL Z (ci.later bY));have p:=hid (fun u (c4:et Z u)=>rV ((c4.block _ (lt_of_heap cd)).trans cd));have dK:=hid (fun u (c4:et Z u)=>a6.later (es bY c4));have cp:=hid (fun u (c4:et Z u)=>yU (ownsRow_later (ownsRow_later ba a5) c4) y d3 (kn l q R))
             have dw:Hid (∀ o ∈ jm l (f7 l q f.m),0<=o/\o<=2048):=by
              rw [p2 c6];exact yW (aH _ (fO c6))
             have dM:jm l (f7 l q f.m)=l[f7 l q f.m].entries:=p2 c6
             have dg:=hid (fun u (c4:et Z u)=>(by
              obtain ⟨bB,cf,_,_,_,_,_,_,bQ,bU,bx, -, -, -, -, -, -,c0, -,be, -, -⟩:=(ci.later (es bY c4)).get (f7 l q f.m) c6
              injection bx with bx
              injection bx with aw aE _
              subst aw aE;have cZ:=be.entries;rw [← dM] at c0 cZ
              exact ⟨bQ,bU,c0,cZ⟩:∃ bQ bU,u.cell? ⟨V,C+f7 l q f.m*7+5,none⟩=some (.slice bQ (jm l (f7 l q f.m)).length bU)/\eE u eV bQ (jm l (f7 l q f.m)).length (gS (jm l (f7 l q f.m)))))
             have c7:=nw aF (f7 l q f.m) (by omega);obtain ⟨av,an,aD⟩:=rV cd;have ej:=lt_of_heap cd
             have dE:((f7 l q f.m:Nat):Int)<ln l:=by omega
             clear a5 bn cT cB dk cU aB ba cL fr2 fr6 fr7 bL d0 dl;clear dM;generalize (gT l q R)[y].a=A at *;generalize jm l (f7 l q f.m)=t at *;generalize f7 l q f.m=mo at *;go_upto_region 29 with fail;rw [← aN.out];clear aN
             have eg:V<Z.heap.size:=by omega
             go_wp2_with fail;go_call aO as e u ⟨rfl,c4⟩
             have cN:et Z u:=by obtain ⟨ek,rfl⟩:=c4;exact k7 _ _
             obtain ⟨bJ,bj,bm⟩:=p u cN;obtain ⟨bg,b2,bk,bt⟩:=cp u cN;have b3:=hid bt;have e1:=hid (fun s=>(cp (u.drewN s) (es cN (k7 u s))).2.2.2);have a9:=dK u cN;obtain ⟨ee,hcc⟩:=v2 _ a9.cr;obtain ⟨e9,cE⟩:=v2 _ a9.dr;have dJ:=hid (bY.trans (cN.mono (by omega)));have ef:=cN.size;have HbY:=hid cN
             have el:V<u.heap.size:=by omega
             clear c4 cN a9 bt av an aD aO p cp dK;obtain ⟨D,aS,K3⟩:=ab.out
             by_cases ak:f.kind=1
             . have ae:=hid (D ak)
               have dY:=hcc j a0
               have dP:(f.kind == 1)=true:=by simp [ak]
               clear D aS K3 ab hcc cE dg bG ak;generalize gJ (l.take j)=bT at *;generalize gJ (l.take mo)=cm at *;generalize gv (l.take mo)=dm at *;generalize gv (l.take j)=aV at *;have b8:IntKind.i64.wrap ((ln l:Int)+1+bT+A)=(ln l:Int)+1+bT+A:=nx (by omega) (by omega);go_wp2_with fail;go_roundw
               case rel=>exact ⟨R+1,by omega,by go_num,by rw [dF.out,ae.out,az];exact b3 _,dJ.setCell (p:=⟨g,y*3+1,none⟩) (by show wr.heap.size<=g;omega) _⟩
               case measure=>simp [intOf];omega
             by_cases au:f.kind=2
             . have dR:=bG au
               obtain ⟨i,rfl⟩:∃ i:Nat,A=i:=⟨A.toNat,by omega⟩
               have X:i<ln t:=by omega
               obtain ⟨bQ,bU,c0,cZ⟩:=dg u HbY;have cb:=cZ.bound;obtain ⟨dS,eo,rfl,cq,dL⟩:=cZ.entI i X;obtain ⟨eb,ex1⟩:=dw t[i] (fO X);have ae:Hid (nB l q f=(ln l:Int)+1+gJ (l.take mo)+t[i]):=(aS au).trans (by rw [mT,lJ,gb X];rfl);have ea:=hcc mo c6
               have dP:(f.kind == 1)=false:=by simp [ak]
               have d6:(f.kind == 2)=true:=by simp [au]
               have eh:(i:Int)<ln t:=by omega
               clear D aS K3 ab hcc cE dg bG dw ak au cZ;generalize t[i]=ei at *;generalize (ln t)=bZ at *;generalize gJ (l.take j)=bT at *;generalize gJ (l.take mo)=cm at *;generalize gv (l.take mo)=dm at *;generalize gv (l.take j)=aV at *;have b8:IntKind.i64.wrap ((ln l:Int)+1+cm+ei)=(ln l:Int)+1+cm+ei:=nx (by omega) (by omega);go_wp2_with fail
               go_quiet (fail)
               go_wp2_with fail;go_roundw
               case rel=>exact ⟨R+1,by omega,by go_num,by rw [dF.out,ae.out,az];exact e1 _ _,(es dJ (k7 u _)).setCell (p:=⟨g,y*3+1,none⟩) (by show wr.heap.size<=g;omega) _⟩
               case measure=>simp [intOf];omega
             . have ae:=hid (K3 (by omega))
               have e8:=cE mo c6
               have dP:(f.kind == 1)=false:=by simp [ak]
               have d6:(f.kind == 2)=false:=by simp [au]
               clear D aS K3 ab hcc cE dg bG dw ak au;generalize gJ (l.take j)=bT at *;generalize gJ (l.take mo)=cm at *;generalize gv (l.take mo)=dm at *;generalize gv (l.take j)=aV at *;have b8:IntKind.i64.wrap (dm+A)=dm+A:=nx (by omega) (by omega);go_wp2_with fail;go_roundw
               case rel=>exact ⟨R+1,by omega,by go_num,by rw [dF.out,ae.out,az];exact b3 _,dJ.setCell (p:=⟨g,y*3+1,none⟩) (by show wr.heap.size<=g;omega) _⟩
               case measure=>simp [intOf];omega
           . obtain rfl:R=ln q.fixes:=by omega
             have a9:=a6.later aB;obtain ⟨bE, -, -⟩:=jy a9.mr;have cC:=lt_of_heap a9.mr;obtain ⟨P,eJ,hr5,ho5,hg5,hat5⟩:=rY S eq.heap.size 59 (.slice cF (gK l j).length bW) (gK l j) a9.vr (some (ep g 0)) bP (gT l q (ln q.fixes)) (rZ (by rw [kn];exact ba)) (by rw [kn];omega) (by omega);rw [kn] at hr5;have b6:=a9.step (v':=P) (cs':=gK l j++gT l q (ln q.fixes)) (fun V q F U=>(hg5.block V (lt_of_heap F) (ru U)).trans F) (by rw [gn];exact ho5) (hat5.imp id (fun e=>⟨_,e,eD _⟩));obtain ⟨ct,cc5,rfl, -, -⟩:=im ho5;have dD:=(hg5.block b cC (ru a9.nv)).trans a9.mr;obtain ⟨bH, -,db⟩:=jy dD;have cv:=lt_of_heap dD;have e7:=db 0;generalize cV:(gK l j).length+(gT l q (ln q.fixes)).length=c5 at *;have dV:=hid b6;have bb:=hid (((af.trans (aB.mono dc)).grown hg5 (by omega) (fun k N=>(a9.vr.lt k N).1)).setCell (p:=(ep b 0)) dp (.slice ct c5 cc5))
             have bv:=hid hr5;clear hr5 ho5 hg5 hat5 dD b6 a9 aB ba cV db cz;generalize (gK l j).length=e3 at *
             go_wp2_with (at_builtin;refine Lib.wpList_append_run _ rfl _ _ _ _ rfl _ _ rfl rfl _ eJ bv ?_;clear bE cC)
             go_wp2_with fail;go_roundw
             case rel=>exact ⟨j+1,_,by omega,by go_num,by rw [cy.out];exact dV,bb⟩
             case measure=>simp [intOf];omega
        . obtain rfl:j=ln l:=by omega
          have bp:=(F.block _ (lt_of_heap c2)).trans c2;obtain ⟨bg,b2,rf⟩:=jy bp;have cQ:=lt_of_heap bp;obtain ⟨bE,br, -⟩:=jy N.mr;have cC:=lt_of_heap N.mr;have da:=lt_of_heap c2;have dz:=hid (vE a7 (by omega:w.heap.size<=eq.heap.size));have d5:=hid (fun k (N:(Value.slice cF (gK l (ln l)).length bW).ownBlock=some k)=>(fun e=>by have:=(a7.lt k N).1;omega:k≠w.heap.size));have cx:=hid (es B F);clear N F a7 bp;generalize ca:(gK l (ln l)).length=cK at *;have e6:=hid ca;clear ca;generalize gv l=cO at *;go_wp2_with fail;refine bodyPost_ret (v:=.tuple #[.agg #[.slice cF cK bW,em cO],em 0]) (by simp [results,results41,go_sem,bg,b2,cQ]) rfl ⟨?_,?_⟩
          . rw [ae.out]
            refine ⟨_,rfl,?_⟩;rw [e6.out];exact il (il dz (fun k N=>fa (p:=(ep w.heap.size 0)) (d5 k N) _)) (fun k N=>fa (p:=(ep w.heap.size 1)) (d5 k N) _)
          . exact (cx.setCell (p:=(ep w.heap.size 0)) (eD _) _).setCell (p:=(ep w.heap.size 1)) (eD _) _
end Go.Proofs.YtndkhgakfodldaaGreatDoor
