import Derived.Test.YtndkhgakfodldaaGreatDoorLi
import Derived.Test.YtndkhgakfodldaaGreatDoorDwb
set_option maxRecDepth 100000
set_option maxHeartbeats 12800000
set_option linter.unusedSimpArgs false
set_option linter.unusedVariables false
open Go.Proofs.Tryz
namespace Go.Proofs.YtndkhgakfodldaaGreatDoor
open Go.RowKit Go.Maps Go.Sort Go.WideMaps
variable {a:OA} {b:Nat} {c:List eK} {d:Int} {l:List Int} {o:dP} {w:World}
theorem nu {G:World} {x:Obj} (h:w.heap[b]? = some x) (I:dm w G):G.heap[b]? = some x:=(I.block b (lt_of_heap h)).trans h
theorem A4 (h:w.heap[b]? = some (.cells (l.map (Value.int .i64)).toArray 3)):gk w (some (dj b 0)) l:=Or.inr ⟨b,0,rfl,lt_of_heap h,fun i V=>by
 rw [eZ h,fY]
 simp [V]⟩
theorem A5 {B:Nat} {q:Nat} (h:w.ownsRow B 69 3 (.slice a c.length q) c.length (fw c)):Mx.ImgAt w a (c.map iR):=by
 by_cases Z:c.length=0
 . exact Or.inl (by rw [hF Z];rfl)
 . obtain ⟨al,f,e,_,ak⟩:=ud h N7
   obtain ⟨b,C,a7,W⟩:=Az h Z
   injection e with aJ _ _
   rw [aJ] at a7
   injection a7 with a7
   injection a7 with I ap _
   refine Or.inr ⟨al,0,aJ,ak,fun i V=>?_⟩
   have d:i<c.length:=PL
   obtain ⟨aH,az,aK⟩:=W i d;subst I ap;simp only [mM];exact ⟨aH,az,aK⟩
theorem GW {a4:OA} {ad:Nat} {a5:OA} {y3:Nat} {ax:OA} {y4:Nat} {aG:OA} {y5:Nat} (h:i1 w o a4 a5 ax aG) (W:o.uses.length<=ad) :
 kY (w.alloc (mE o a4 ad a5 y3 ax y4 aG y5)) (some (dj w.heap.size 0)) [o] (fun _=>.slice aG o.entries.length y5):=by
 have I:=dX w (mE o a4 ad a5 y3 ax y4 aG y5);obtain ⟨bt,ah,ae,c3,K,av,aW,_⟩:=fi I;refine ⟨Ob,fun i V=>?_⟩
 obtain rfl:i=0:=PL
 exact ⟨w.heap.size,0,a4,ad,a5,y3,ax,y4,aG,y5,rfl,lt_of_heap I,bt,ah,ae,c3,K,av,aW,h.later (dn _ _),W,rfl⟩
structure A6 (o1 o2:dP) (code:List eK) (steps:Int):Prop where
 lk:kc [o1,o2] = .ok (code,5)
 ck:kB [o1,o2]=0
 top:kc [o2] = .error 9
 c0:code[0]? = some ⟨13,22,0⟩
 c2:∃ x y,code[2]? = some ⟨20,x,y⟩
 few:code.length<=2048
 run:Mx.ansR (code.map iR) 5 [1] 9 999=⟨0,[6,7],[6,0,6,0,0],6,steps,0⟩
 fit:∀ i ∈ code.map iR,Mx.InsFit i
theorem GX (bE ab:dP) (f:List eK) (c:Int) (H:A6 bE ab f c)
 (bC:∀ w,dw 85 #[] w fun e G=>∃ a,e = .returned (.slice (some a) 2 2)/\nS G (some a) [bE,ab]/\dm w G) (w:World) :
 dw 42 #[] w fun e G=>e = .returned (.bool true)/\dm w G:=by
 have aM:=hid H;have A:=hid bC;clear H bC;go_enter func42,ntmps42;go_wp2_with fail;refine (A _).mono ?_;rintro e dk ⟨b0,rfl,hobs,aq⟩;have B:=hid aq;obtain ⟨aa,hos1⟩:=AP hobs;have b2:=hid (wF [bE,ab] aa (some b0) 2 dk hos1:dw 40 #[.slice (some b0) 2 2] dk _);clear hobs hos1 aq;go_wp2_with fail;refine b2.mono ?_;rintro e w2 ⟨Y,aN⟩;rw [aM.out.lk] at Y;obtain ⟨v,rfl,b5⟩:∃ v,e = .returned (.tuple #[.agg #[v,di 5],di 0])/\w2.ownsRow dk.heap.size 69 3 v f.length (fw f):=Y;obtain ⟨a8,aB,rfl, -, -⟩:=hS b5;have S:=hid (A5 b5);have O:=hid (dp B aN)
 have bK:0<f.length:=by have:=aM.c0;exact (pu.1 this).1
 have m:=hid (dX w2 (.cells #[.slice a8 f.length aB,di 5] 81));have ac:=hid (dp O (dn w2 (.cells #[.slice a8 f.length aB,di 5] 81)))
 have b1:(f.map iR).length=f.length:=Ob
 clear b5 aN b2;go_wp2_with fail;refine (A _).mono ?_;rintro e dC ⟨an,rfl,hobs,T⟩;have t:=hid (dp ac T);have bX:=hid (nu m T);have P:=hid (S.later (dp (dn w2 _) T));obtain ⟨b,C,a4,ad,a5,bi,ax,b4,aG,bx,c2,b6,g⟩:=hobs.ob 1 Ob;have c2:an=(dj b C):=eX c2;subst c2;have bb:=b6.lt;obtain ⟨-,bf,be,b9,bm,bk,bO,bZ,h⟩:=b6;have g:ab.uses.length<=ad:=g;have h:i1 dC ab a4 a5 ax aG:=h
 replace bf:dC.cell? ⟨b,C+7,none⟩=some (.string ab.name):=by simpa using bf
 replace be:dC.cell? ⟨b,C+7+1,none⟩=some (.slice a4 ab.uses.length ad):=by simpa using be
 replace b9:dC.cell? ⟨b,C+7+2,none⟩=some (di ab.data):=by simpa using b9
 replace bm:dC.cell? ⟨b,C+7+3,none⟩=some (.slice a5 ab.code.length bi):=by simpa using bm
 replace bk:dC.cell? ⟨b,C+7+4,none⟩=some (.slice ax ab.fixes.length b4):=by simpa using bk
 replace bO:dC.cell? ⟨b,C+7+5,none⟩=some (.slice aG ab.entries.length bx):=by simpa using bO
 replace bZ:dC.cell? ⟨b,C+7+6,none⟩=some (di ab.main):=by simpa using bZ
 have b2:=hid (wF [ab] _ (some (dj dC.heap.size 0)) 1 _ (GW (y3:=bi) (y4:=b4) (y5:=bx) h g):dw 40 #[.slice (some (dj dC.heap.size 0)) 1 1] (dC.alloc (mE ab a4 ad a5 bi ax b4 aG bx)) _);clear hobs T h m S;go_wp2_with fail;refine b2.mono ?_;rintro e dD ⟨Y,bc⟩;rw [aM.out.top] at Y;obtain ⟨rfl, -⟩:e = .returned (.tuple #[.agg #[dt,di 0],di 9])/\(9:Int)≠0:=Y;have br:=dp (dp (dn dC _) bc) (dn dD (.cells #[dt,di 0] 81));have bu:=hid (dp t br);have aQ:=hid (nu bX br);have j:=hid (P.later br)
 obtain ⟨d,hW5⟩:∃ d,d=dD.alloc (.cells #[dt,di 0] 81):=⟨_,rfl⟩
 rw [← hW5] at bu aQ j;have bB:=hid hW5
 have l:=hid (Mx.Run_any a8 (some (dj d.heap.size 0)) aB 1 (f.map iR) 5 [1] 9 999 (d.alloc (.cells #[di 1] 3)) (j.later (dn _ _)) (by rw [b1];have:=aM.few;omega) aM.fit
  (Or.inr ⟨d.heap.size,0,rfl,Ob,fun i V=>by obtain rfl:i=0:=PL;rw [eZ (dX d (.cells #[di 1] 3))];rfl⟩) N9 N9 N9)
 rw [b1,aM.out.run] at l;obtain ⟨aH,az,qf⟩:=oh aQ;have ah:=lt_of_heap aQ;clear bc br b2 bf be b9 bm bk bO bZ bb g bX P hW5;go_upto_region 3 with fail;rw [← bB.out];clear bB;go_wp2_with fail;refine l.mono ?_;rintro e eD ⟨s,J,ai,K,rfl,b3,aV,Z, -, -, -⟩;have b3:gk eD s [6,7]:=b3.at;have aV:gk eD ai [6,0,6,0,0]:=aV.at;have a1:=dp (dp (dn d _) Z) (dn eD (.cells #[di 0,.slice s 2 J,.slice ai 5 K,di 6] 51));have ak:=hid (dp bu a1);have L:=hid (nu aQ a1);have a0:=hid (j.later a1);have M:=hid (dX eD (.cells #[di 0,.slice s 2 J,.slice ai 5 K,di 6] 51));have ch:=hid (And.intro (b3.later (dn eD (.cells #[di 0,.slice s 2 J,.slice ai 5 K,di 6] 51))) (aV.later (dn eD (.cells #[di 0,.slice s 2 J,.slice ai 5 K,di 6] 51))));clear b3 aV Z a1 l aH az qf aQ j
 go_wp2_with fail;refine (A _).mono ?_;rintro e bw ⟨aE,rfl,hobs,n⟩;obtain ⟨a7,hos8⟩:=AP hobs;have af:=hid (dp ak n);have Q:=hid (nu L n);have a6:=hid (a0.later n);have I:=hid (nu M n);have u:=hid (And.intro (ch.1.later n) (ch.2.later n));have ao:=hid (Ay [bE,ab] a7 (some aE) 2 bw hos8:dw 43 #[.slice (some aE) 2 2] bw _);rw [aM.out.ck] at ao;clear hobs hos8 n L a0 M ch;go_wp2_with fail;refine ao.mono ?_;rintro e ar ⟨rfl,X⟩;have p:=hid (dp af X);have o:=hid (nu Q X);have R:=hid (a6.later X);have ap:=hid (nu I X);have au:=hid (And.intro (u.1.later X) (u.2.later X));clear X ao Q a6 I u;obtain ⟨aH,az,qf⟩:=oh o;obtain ⟨bF,bo,ei,e2,bV⟩:=Ai ap;have ae:=lt_of_heap o
 have ag:=lt_of_heap ap;obtain ⟨x,a3,am⟩:=aM.c2;have a9:2<f.length:=(pu.1 am).1;have N:f[0]=⟨13,22,0⟩:=(pu.1 aM.c0).2;have F:f[2]=⟨20,x,a3⟩:=(pu.1 am).2
 rcases R.out with q | ⟨aj,W,rfl,bP,r⟩
 . have:f.length=0:=by rw [← b1,q];rfl
   omega
 have U:=r 0 (by rw [b1];omega);have z:=r 2 (by rw [b1];omega);simp only [mM,N,F,iR] at U z;obtain ⟨y,E,k⟩:=U;obtain ⟨D, -, -⟩:=z
 replace y:ar.cell? (dj aj W)=some (di 13):=by simpa using y
 replace E:ar.cell? ⟨aj,W+1,none⟩=some (di 22):=by simpa using E
 replace k:ar.cell? ⟨aj,W+2,none⟩=some (di 0):=by simpa using k
 replace D:ar.cell? ⟨aj,W+6,none⟩=some (di 20):=by simpa using D
 have al:((0:Nat):Int)<(f.length:Int):=N7
 have av:((2:Nat):Int)<(f.length:Int):=N7
 have cn:=hid (dp (dn ar (.cells #[di 6,di 7] 3)) (dn _ (.cells #[di 6,di 0,di 6,di 0,di 0] 3)));have bT:gk ((ar.alloc (.cells #[di 6,di 7] 3)).alloc (.cells #[di 6,di 0,di 6,di 0,di 0] 3)) (some (dj ar.heap.size 0)) [6,7]:=(A4 (l:=[6,7]) (dX ar (.cells #[di 6,di 7] 3))).later (dn _ _)
 have bR:gk ((ar.alloc (.cells #[di 6,di 7] 3)).alloc (.cells #[di 6,di 0,di 6,di 0,di 0] 3)) (some ⟨ar.heap.size+1,0,none⟩) [6,0,6,0,0]:=A4 (l:=[6,0,6,0,0]) (by
  have:=dX (ar.alloc (.cells #[di 6,di 7] 3)) (.cells #[di 6,di 0,di 6,di 0,di 0] 3);rw [pv] at this
  exact this)
 have c6:=hid (zn 0 6 s (some (dj ar.heap.size 0)) ai (some ⟨ar.heap.size+1,0,none⟩) J 2 K 5 [6,7] [6,0,6,0,0] _ (au.1.later cn) bT (au.2.later cn) bR N9 N9);clear bT bR r am N F o R ap au;go_wp2_with fail;refine c6.mono ?_;rintro e a2 ⟨rfl,hb10⟩;have ay:=hid (dp p (dp cn hb10));clear hb10 bF bo ei e2 bV aH az qf y E k D;go_wp2_with fail
 go_returns
 exact ⟨rfl,ay⟩
theorem GY:A6 pS oX l1 (Mx.ansR (l1.map iR) 5 [1] 9 999).steps where
 lk:=Gm
 ck:=Gn
 top:=Gp
 c0:=Gq
 c2 :=by
  have h:=Gr
  cases e:l1[2]? with
  | none=>rw [e] at h;cases h
  | some i=>
    rw [e] at h;obtain ⟨T,x,a3⟩:=i;have:T=20:=eX h;exact ⟨x,a3,by rw [this]⟩
 few:=Gs.1
 run:=Gt
 fit:=fun i V=>by
  obtain ⟨al,ak,rfl⟩:=ig.1 V;have:=e1.1 Gu al ak;simp only [dO,decide_eq_true_eq] at this;exact ⟨(⟨N7,N7⟩:Mx.fit64 al.a),(⟨N7,N7⟩:Mx.fit64 al.b)⟩
theorem GZ (w:World):dw 42 #[] w fun e G=>e = .returned (.bool true)/\dm w G:=
 GX pS oX l1 _ GY L9 w
theorem A7:∀ (l:List eK) (k:Nat) (x:Int),(l.modify k (jM x)).map eK.op=l.map eK.op
 | [],k,x=>Ob
 | i :: r,0,x=>by simp [jM]
 | i :: r,k+1,x=>by simp [A7 r k x]
theorem wP (l:List dP) (o:dP):∀ j,(gO l o j).map eK.op=o.code.map eK.op
 | 0=>rfl
 | j+1=>by
   rw [gO];split
   . rw [A7];exact wP l o j
   . exact wP l o j
def ry (c:List eK):Prop:=∀ x ∈ c.map eK.op,1<=x/\x<=22
theorem wQ {a b:List eK} (a7:ry a) (I:ry b):ry (a++b):=fun x S=>by
 rw [j2] at S
 rcases jF.1 S with h | h
 . exact a7 x h
 . exact I x h
theorem G0 (h:fD o=0):ry o.code:=fun x S=>by
 obtain ⟨_,_,W,_⟩:=rl h;unfold jh at W;simp only [dO] at W;obtain ⟨i,V,rfl⟩:=ig.1 S;obtain ⟨j,a2,rfl⟩:=kI V;have:=iN.1 W.1 j a2;unfold q4 at this;rw [ew a2] at this;exact of_decide_eq_true this
theorem A8 (l:List dP):∀ j,j<=l.length->ry (jT l j)
 | 0,_=>fun x S=>by simp [jT] at S
 | j+1,h=>by
   rw [Ao];refine wQ (A8 l j N7) (fun x S=>?_);rw [t8 (by omega:j<l.length)] at S
   have S:x=13:=by simpa using S
   omega
theorem A9 {l:List dP} (h:∀ o ∈ l,fD o=0):∀ j,j<=l.length->ry (fX l j)
 | 0,_=>by
   have e:fX l 0=jT l l.length++[⟨20,0,0⟩]:=by simp [fX]
   rw [e];refine wQ (A8 l l.length (dA _)) (fun x S=>?_)
   have S:x=20:=by simpa using S
   omega
 | j+1,a2=>by
   rw [rr l (by omega:j<l.length)];refine wQ (A9 h j N7) (fun x S=>?_);rw [wP] at S;exact G0 (h _ (eb N7)) x S
theorem G1 {l:List dP} (h:kc l = .ok (c,d)):Mx.checkI (c.map iR) d=0/\(c.length:Int)=l.length+1+hx l/\c.length<=2048/\od l:=by
 unfold kc at h
 split at h
 . cases h
 . rename_i F
   obtain ⟨a9,au,bn,aH,k5,k6⟩:=uh (by simpa using F:kB l=0)
   split at h
   . cases h
   . rename_i J
     injection h with h
     injection h with W hd
     subst W hd;have X:=ug l l.length (dA _);rw [gu] at X;have Z:=ue au bn;have Y:=ni Z l.length (dA _);rw [gu] at Y;refine ⟨?_,X,N7,Z⟩;unfold Mx.checkI;rw [if_neg P0,if_pos,if_neg N7];rw [e1];intro x S;obtain ⟨al,ak,rfl⟩:=ig.1 S;have:=A9 bn l.length (dA _) al.op (ig.2 ⟨al,ak,rfl⟩);show (decide (1<=al.op)&&decide (al.op<=22))=true;simp only [dO,decide_eq_true_eq];exact this
theorem Tryz.infoObj:(prog.info? 62).map (fun i=>(i.zero,i.size,i.bytes))=some (some (.agg #[.string ⟨#[]⟩,dt,di 0,dt,dt,dt,di 0]),7,128):=by kernel_rfl
theorem G2 (h:dx w dQ a l.length (fs l)):Mx.NumsAt w a l:=by
 by_cases ab:l.length=0
 . exact Or.inl (hF ab)
 . obtain ⟨b,C,a7,I,W⟩:=h.cell N7
   refine Or.inr ⟨b,C,a7,I,fun i V=>?_⟩;obtain ⟨v,af,hd⟩:=W i (.int l[i]) (by simp [fs,V]);obtain ⟨rfl,_⟩:=gR hd;exact af
theorem G3 {l:List dN} (h:oc l) (ak:∀ u ∈ l,iy u = .ok (eg u)) {f:List eK} (X:kc (l.map eg) = .ok (f,d)) {g:List Int} {t:Nat} (i:g.length<=64) (ax:t<=2000) :
 ∃ k,Mx.ansR (f.map iR) d g t 134217728=⟨(ik l g t).res.end_,(ik l g t).res.out,(ik l g t).res.data,(ik l g t).res.ticks,k,0⟩:=by
 obtain ⟨aJ,aI,bq,_⟩:=A3 h ak X;have K:=(G1 X).1
 have ar:Mx.errR (f.map iR) d g.length t 134217728=0:=by
  unfold Mx.errR;rw [if_neg (by rw [K];exact fun e=>e rfl),if_neg N7,if_neg N7]
 obtain ⟨a9,u1,u2,u3,u4,u5⟩:=GE h (fun u aL=>(pR (ak u aL)).2.2.2) (fun u aL=>(kS (pR (ak u aL)).2.1).2.2) bq t ax g;refine ⟨a9.steps,?_⟩;unfold Mx.ansR;rw [if_pos ar,aJ,aI,ir];show (let o:=Mx.Mc.run ⟨iS l,t,134217728⟩ (134217728+1) (Mx.startS (ku l).toNat g);(⟨o.en,o.out,o.data,o.ticks,o.steps,0⟩:Mx.Ans))=_;rw [u1];show (⟨a9.en,a9.out,a9.data,a9.ticks,a9.steps,0⟩:Mx.Ans)=_;rw [u2,u3,u4,u5]
theorem G4 {l:List dN} (h:dx w dQ a l.length (gJ l)) {u:dN} (aL:u ∈ l):u.name.size<=maxLen/\∀ o ∈ u.uses,o.size<=maxLen:=by
 obtain ⟨i,V,rfl⟩:=kI aL;obtain ⟨b,C,E,a9,a0,au,a6,bn,rfl,S⟩:=h.un i V;exact ⟨S.uv.wn,(mm S.uv.uses).2⟩
theorem G5 (l:List dN) (g:List Int) (m:Int) (ad:OA) (aA:Nat) (bD:OA) (p:Nat) (w:World) (an:dx w dQ ad l.length (gJ l)) (A:dx w dQ bD g.length (fs g)) (bY:g.length<=p) (bx:p<=maxLen) (aE:∀ u ∈ l,u.uses.length<=2000000) :
 dw 14 #[.slice ad l.length aA,.slice bD g.length p,di m] w fun e G=>e = .returned (.bool true)/\dm w G:=by
 have bK:=hid GZ;have b4:=Run_any l g m ad aA bD p w an A bY aE
 by_cases aG:lu l g m=0
 rotate_left
 . have aq:(lu l g m != 0)=true:=by simp [aG]
   have z:=hid b4;clear b4 aG an A bY aE bx;generalize lu l g m=er at *;generalize mA l g m=r at *;go_enter func14,ntmps14;go_wp2_with fail;refine z.mono ?_;rintro e dk ⟨L,aF,rfl,Q,W,H,aH,rfl, -, -, -⟩;have B:=hid L;clear L;go_wp2_with fail;refine (bK _).mono ?_;rintro e w2 ⟨rfl,aN⟩;have O:=hid (dp (dp B (dn dk _)) aN);clear aN;go_wp2_with fail;go_ret;exact ⟨rfl,O⟩
 obtain ⟨av,c1,co,hp4⟩:=Et aG
 obtain ⟨n,rfl⟩:∃ n:Nat,m=n:=⟨m.toNat,N7⟩
 have aw:=Aa av;have bv:=aw.f;have c9:=hid aw;have cn:=hid (fun u (aL:u ∈ l)=>NH av aL)
 have c8:Hid (mA l g n=(ik l g n).res):=by show mA l g n=_;unfold mA;rw [if_pos aG,ir]
 rw [aG] at b4;have z:=hid b4;have b0:=hid an;have y:=hid A;have cp:=hid (fun u (aL:u ∈ l)=>G4 an aL);clear b4 aG av aw an A aE;generalize mA l g (n:Int)=r at *;go_enter func14,ntmps14;go_wp2_with fail;refine z.mono ?_;rintro e dk ⟨aq,aF,rfl,Q,W,H,aH,rfl,b3,aV,hco⟩
 obtain ⟨ax,aR⟩:∃ M,M=dk.alloc (.cells #[di r.end_,.slice Q r.out.length W,.slice H r.data.length aH,di r.ticks] 51):=⟨_,rfl⟩
 have a4:dm dk ax:=by rw [aR];exact dn _ _
 have bl:=hid (show ax.heap[dk.heap.size]? = some (.cells #[di r.end_,.slice Q r.out.length W,.slice H r.data.length aH,di r.ticks] 51) by rw [aR];exact dX _ _);have b8:=hid aR;have B:=hid (dp aq a4);have aO:=hid (And.intro (b3.later a4) (aV.later a4));clear z aq b3 aV hco aR a4;go_upto_region 2 with fail;rw [← b8.out];clear b8;go_wp2_with fail
 go_loopw [9,10,11,12] (fun o i _ _ wr=>∃ (j:Nat) (q:List gt),q.length=j/\j<=l.length/\i=di j/\q.map gt.o=(l.take j).map eg/\(∀ u ∈ l.take j,iy u = .ok (eg u))/\wr.ownsRow ax.heap.size 62 7 o j (q.flatMap gt.vs)/\(∀ aX ∈ q,aX.Ok wr o)/\dm ax wr) (fun _ i _ _ _=>l.length - (intOf i).toNat)
 case atStart=>exact ⟨0,[],rfl,dY _,rfl,Ob,fun u h=>Pq,jU _ _ _ _,fun aX h=>P3,Below.refl _ _⟩
 case round=>
  obtain ⟨j,q,hLj,a2,rfl,hmap,hgen,b5,aP,I⟩:=hrel;obtain ⟨ca,aj,rfl, -, -⟩:=hS b5;have bU:=hid hmap;have bi:=hid hgen;have aZ:=hid b5;have bC:=hid aP;have ag:=hid I;have bj:=I.size;clear hmap hgen aP
  by_cases ac:j<l.length
  . obtain ⟨b,C,E,a9,a0,au,a6,bn,rfl,S⟩:=(b0.later (dp B I)).un j ac
    have bA:=hid S.uv;have c4:Hid (l.take (j+1)=l.take j++[l[j]]):=gn ac;have c7:=hid (cn l[j] (eb ac));obtain ⟨bb,bf,be,b9,bm,bk,_,bG,_,_,_⟩:=S;have c2:=bG.bound;have bJ:=hid (dp B I);clear bG I b5;generalize l[j]=u at *
    cases ak:iy u with
    | error c=>
      obtain rfl:c=2:=(LR ak).resolve_right (fun h=>by
       have F:=h.2;rw [c7.out.1,c7.out.2] at F
       cases F)
      have ao:=hid (LQ ak bA);clear ak;go_wp2_with fail;refine ao.mono ?_;rintro e w2 ⟨rfl,aN⟩;have O:=hid (dp bJ aN);clear aN bf be b9 bm bk bb ao;exact RK
    | ok o =>
      have P:=hid (pR ak).1;have bz:=hid ak;have ao:=hid (zg u E a9 a0 au a6 bn wr bA (by rw [ak];simp));clear ak;go_wp2_with fail;refine ao.mono ?_;rintro e w2 ⟨Y,aN⟩;unfold q2 at Y;rw [bz.out] at Y;obtain ⟨aI,aD,a8,aB,a7,ab,ae,a,rfl,bd,bs,bI,bM⟩:=Y;have b6:=hid (gt.Ok.made (z:=⟨o,aI,aD,a8,aB,a7,ab,ae,a⟩) (fun k N=>(aZ.lt k N).2) bd bs bI bM)
      obtain ⟨aa,hW2⟩:∃ M,M=w2.alloc (iP o.name aI o.uses.length aD o.data a8 o.code.length aB a7 o.fixes.length ab ae o.entries.length a o.main):=⟨_,rfl⟩
      have am:dm w2 aa:=by rw [hW2];exact dn _ _
      have aQ:aa.heap[w2.heap.size]? = some (iP o.name aI o.uses.length aD o.data a8 o.code.length aB a7 o.fixes.length ab ae o.entries.length a o.main):=by rw [hW2];exact dX _ _
      have U:=hid hW2;have O:=hid (ag.trans ((dp aN am).mono bj));have cg:=hid (ownsRow_later aZ (dp aN am));have cb:=hid (b6.later am);have cm:=hid (fun aX (b2:aX ∈ q)=>(bC aX b2).later (dp aN am));have c0:=(O).size;clear aN am bd bs bI bM hW2 b6 ao bf be b9 bm bk bb;go_upto_region 9 with fail;rw [← U.out];clear U;obtain ⟨bE,aT,aU,bh,a3,bp,bL,_⟩:=fi aQ;have bZ:=lt_of_heap aQ;clear aQ
      go_wp2_with (at_builtin;refine tC rfl (.tmp 49) (.tmp 51) 79 rfl ax.heap.size 62 _ 7 128 Tryz.underlying79 Tryz.infoObj rfl N9 aa (.slice ca j aj) j (q.flatMap gt.vs) rfl cg.out #[.string o.name,.slice aI o.uses.length aD,di o.data,.slice a8 o.code.length aB,.slice a7 o.fixes.length ab,.slice ae o.entries.length a,di o.main] _ rfl rfl rfl (gt.one ⟨o,aI,aD,a8,aB,a7,ab,ae,a⟩) N7 N9 c0 _ rfl ?_;intro al R dC ap;have aM:=hid ap;have bX:=ap.size;clear ap bE aT aU bh a3 bp bL)
      go_wp2_with fail;go_roundw
      case rel=>
       refine ⟨j+1,q++[⟨o,aI,aD,a8,aB,a7,ab,ae,a⟩],by rw [eM,hLj];rfl,N7,Ou,?_,?_,?_,?_,O.trans aM.below⟩
       . rw [c4.out,j2,j2,bU.out]
         simp [P.out]
       . intro v af
         rw [c4.out] at af
         rcases jF.1 af with h | h
         . exact bi v h
         . rw [l8.1 h,bz.out,P.out]
       . have h:=aM.own
         rw [uO];simpa [gt.vs] using h
       . intro aX b2
         rcases jF.1 b2 with h | h
         . exact (cm aX h).onto aM
         . rw [l8.1 h]
           exact cb.onto aM
      case measure=>simp [intOf];omega
  . obtain rfl:j=l.length:=by omega
    rw [gu] at *
    have cj:kY wr ca (l.map eg) (gt.ev q):=by
     rw [← bU.out];refine GF (q:=aj) (B:=ax.heap.size) (by rw [hLj];exact aZ) N7 (fun aX b2=>?_)
     have a1:aX.o ∈ l.map eg:=by rw [← bU.out];exact ig.2 ⟨aX,b2,rfl⟩
     obtain ⟨u,aL,ar⟩:=ig.1 a1;obtain ⟨ay,b1⟩:=cp u aL;exact (bC aX b2).ov ar.symm (pR (bi u aL)).2.1 ay b1
    have bq:(l.map eg).length=l.length:=fM ..;have ao:=wF (l.map eg) (gt.ev q) ca aj wr cj;rw [bq] at ao;have ao:=hid ao;have bJ:=hid (dp B I);have cd:=hid (fun c d h=>A3 (f:=c) (d:=d) c9 bi h);have ci:=hid (fun c d h=>G3 (f:=c) (d:=d) (t:=n) c9 bi h c1 N7);have bT:=hid (fun c h=>GI (c:=c) c9 bi h);clear I b5 cj aZ bC bU
    cases aY:kc (l.map eg) with
    | error c=>
      obtain rfl:=bT c aY;rw [aY] at ao;clear aY;go_wp2_with fail;refine ao.mono ?_;rintro e w2 ⟨⟨rfl, -⟩,aN⟩;have O:=hid (dp bJ aN);clear aN;exact RK
    | ok D=>
      obtain ⟨f,d⟩:=D;obtain ⟨bB,bH,bR,bN⟩:=cd f d aY;obtain ⟨k,hans⟩:=ci f d aY;rw [aY] at ao
      have bP:f.length<=2048:=by rw [← bB,fM] at bR;exact bR
      have cc:Hid (∀ i ∈ f.map iR,Mx.InsFit i):=fun i V=>by
       obtain ⟨x,S,rfl⟩:=ig.1 V;obtain ⟨az,aK⟩:=bN x S;unfold hg at az aK;unfold Mx.InsFit Mx.fit64;exact ⟨by show _<=x.a/\x.a<=_;omega,by show _<=x.b/\x.b<=_;omega⟩
      rw [← c8.out] at hans;have cl:=hid hans;clear aY bB bH bR bN hans cd ci bT;go_wp2_with fail;refine ao.mono ?_;rintro e w2 ⟨⟨v,rfl,hrow2⟩,aN⟩;obtain ⟨a8,aB,rfl, -, -⟩:=hS hrow2
      obtain ⟨aa,hW2⟩:∃ M,M=w2.alloc (.cells #[.slice a8 f.length aB,di d] 81):=⟨_,rfl⟩
      have am:dm w2 aa:=by rw [hW2];exact dn _ _
      have aQ:aa.heap[w2.heap.size]? = some (.cells #[.slice a8 f.length aB,di d] 81):=by rw [hW2];exact dX _ _
      have U:=hid hW2;have O:=hid (dp bJ (dp aN am));have t:=hid (ag.trans ((dp aN am).mono bj));have c5:=Mx.Run_any a8 bD aB p (f.map iR) d g n 134217728 aa ((A5 hrow2).later am) P0 cc (G2 (y.later O)) N7 bY bx;rw [cl.out,fM] at c5;have bO:=hid c5;clear aN am hrow2 hW2 c5 ao cc cl;go_upto_region 13 with fail;rw [← U.out];clear U;obtain ⟨bt,ah,cf⟩:=oh aQ;have bZ:=lt_of_heap aQ;clear aQ;go_wp2_with fail;refine bO.mono ?_;rintro e dD ⟨s,J,ai,K,rfl,aS,hn4,bc, -,aW,hd5⟩
      obtain ⟨ch,hW4⟩:∃ M,M=dD.alloc (.cells #[di r.end_,.slice s r.out.length J,.slice ai r.data.length K,di r.ticks] 51):=⟨_,rfl⟩
      have a5:dm dD ch:=by rw [hW4];exact dn _ _
      have b7:=hid (show ch.heap[dD.heap.size]? = some (.cells #[di r.end_,.slice s r.out.length J,.slice ai r.data.length K,di r.ticks] 51) by rw [hW4];exact dX _ _);have aJ:=hid hW4;have X:=hid (dp O (dp bc a5));have cq:=hid (nu bl (t.trans ((dp bc a5).mono (by have:=t.size;omega))));have ce:=hid (And.intro (gk.later (w:=dD) aS.at a5) (gk.later (w:=dD) hn4.at a5));have bg:=hid (And.intro (aO.1.later (t.trans ((dp bc a5).mono (by have:=t.size;omega)))) (aO.2.later (t.trans ((dp bc a5).mono (by have:=t.size;omega)))));clear aS hn4 bc a5 hW4 bO bt ah cf bZ;go_upto_region 16 with fail;rw [← aJ.out];clear aJ;go_wp2_with fail;refine (bK _).mono ?_;rintro e dJ ⟨rfl,br⟩;have bu:=hid (dp X br);have ck:=nu cq br;have bQ:=nu b7 br
      have c6:=hid (zn r.end_ r.ticks s Q ai H J W K aH r.out r.data dJ (ce.1.later br) (bg.1.later br) (ce.2.later br) (bg.2.later br) N7 N7);obtain ⟨bF,bo,ei,e2,bw,bV⟩:=il ck;obtain ⟨bf,be,b9,bm,ba,zf⟩:=il bQ;clear br ck bQ;go_wp2_with fail;refine c6.mono ?_;rintro e eD ⟨rfl,Z⟩;have bW:=hid (dp bu Z);clear Z;go_wp2_with fail;go_ret;exact ⟨rfl,bW⟩
end Go.Proofs.YtndkhgakfodldaaGreatDoor
