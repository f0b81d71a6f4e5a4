import Derived.Test.YtndkhgakfodldaaGreatDoorId
set_option maxRecDepth 100000
set_option maxHeartbeats 12800000
set_option linter.unusedSimpArgs false
set_option linter.unusedVariables false
open Go.Proofs.Tryz
namespace Go.Proofs.YtndkhgakfodldaaGreatDoor
open Go.RowKit Go.Shelf Go.Maps Go.WideMaps
theorem Er (l:List dN) (g:List Int) (q:Nat) (ad:OA) (aA:Nat) (bD:OA) (p:Nat) (w:World) (an:dx w dQ ad l.length (gJ l)) (A:dx w dQ bD g.length (fs g)) (bY:g.length<=p) (aO:li l=true) (aw:nO l) (ab:0<l.length) (aa:l.length<=4) (hd:∀ u ∈ l,0<=u.data/\u.data<=512) (a8:fG l<=512) (aE:∀ u ∈ l,u.uses.length<=2000000) (d3:q<=1000000) :
 dw 73 #[.slice ad l.length aA,.slice bD g.length p,di q] w fun e G=>e = .returned (dF w.heap.size 0)/\dm w G/\∃ s,e7 G w.heap.size w.heap.size (fJ l q) s (dt) (jP l g) 0:=by
 have c8:=@run_makeMap prog;have b0:=hid an;have y:=hid A;have cz:=hid (fun j (a2:j<l.length) o (a8:o ∈ l[j].uses)=>qM aO aw a2 a8);have ba:=hid (vC l hd);have cF:=hid aE;have cD:=hid hd;have cO:=hid a8;have cA:=hid bY;have aT:=hid (FL aO aw aE);obtain ⟨b,C,_,_,_,_,_,_,rfl, -⟩:=an.un 0 ab;clear an A aO aw hd aE a8 bY;go_enter func73,ntmps73;go_wp2_with fail
 go_loopw [9,23] (fun cX i wr=>∃ (j:Nat) (aG ay:Value) (al:List Value),j<=l.length/\i=di j/\cX=di (fG (l.take j))/\wr.heap[w.heap.size]? = some (.cells #[.slice (some (dj b C)) l.length aA,aG,ay,dt,.slice bD g.length p,dt,di q,di 0,di 0,di 0] 128 (0,0))/\gc wr (w.heap.size+1) j (hr (fe (l.take j)))/\Nr (w.heap.size+2) wr ((fq l).take j) ((hi l).take j) aG ay al/\dm w wr) (fun _ i _=>l.length - (intOf i).toNat)
 case atStart=>
  refine ⟨0,dt,dt,[],dY _,rfl,rfl,eR (dX w _),?_,⟨jU _ _ _ _,jU _ _ _ _,hP.nil _,rfl,fun i h=>?_⟩,dp (dn w _) (dn _ _)⟩
  . have:=gc.made (w.alloc (.cells #[.slice (some (dj b C)) l.length aA,dt,dt,dt,.slice bD g.length p,dt,di q,di 0,di 0,di 0] 128))
    rw [pv] at this;exact this
  . simp at h
 case round=>
  obtain ⟨j,aG,ay,al,a2,rfl,rfl,ci,hmap,hnr,b1⟩:=hrel;have b9:=hid ci;have L:=hid hmap;have aS:=hid hnr;have ag:=hid b1;have bj:=b1.size;clear ci hmap hnr b1;have d6:=L.lt
  by_cases ac:j<l.length
  . obtain ⟨aL,c0,E,a9,a0,au,a6,bn,ar,S⟩:=b0.un j ac
    cases ar;have bi:=hid (cz j ac);have aV:=hid (qL l j ac);have cT:=cF l[j] (eb ac);have cb:=cD l[j] (eb ac);have co:=hid (tu l j ac);have bK:=ba j;have d1:=hid (FM l j ac);have cn:=hid (FN l j ac);have cN:Hid (m4 l j l[j]=j :: l[j].uses.map (fun o=>((hr (fe (l.take (j+1))) o).getD 0).toNat)):=rfl;obtain ⟨c9,bU,bd,bs,bI,bM,aF,_,_,bF,_⟩:=S;have bt:=(ag.cell (p:=(dj b _)) c9).trans bU;have ah:=(ag.cell (p:=(dj b _)) c9).trans bd;have ae:=(ag.cell (p:=(dj b _)) c9).trans bs;have c3:=(ag.cell (p:=(dj b _)) c9).trans bI;have K:=(ag.cell (p:=(dj b _)) c9).trans bM;have bb:=e4 c9 ag.size;clear bU bd bs bI bM;have cV:=hid aF;have c6:=aF.bound;have cC:=hid (tt (fe (l.take j)) l[j].name)
    have ca:Hid ((fe (l.take j)).length=j):=by show _=_;unfold fe;rw [fM,jE];omega
    have d7:j<4:=N7
    have b2:((fq l).take j).length=j:=by rw [jE,n9];omega
    have bm:((hi l).take j).length=j:=by rw [jE,oa];omega
    generalize fe (l.take j)=c at *;generalize cW:fe (l.take (j+1))=ns1 at *;generalize m4 l j l[j]=nr at *;generalize l[j]=x at *;generalize fG (l.take j)=sj at *;clear aF
    obtain ⟨ax,aR⟩:∃ ax,ax=wr.alloc (fF x.name E x.uses.length a9 x.data a0 x.parts.length au a6 x.main.length bn):=⟨_,rfl⟩
    have af:Hid (gc ax (w.heap.size+1) j (hr c)):=by rw [aR];exact L.later (dn _ _)
    have bl:Hid (ax.heap[wr.heap.size]? = some (fF x.name E x.uses.length a9 x.data a0 x.parts.length au a6 x.main.length bn)):=by rw [aR];exact dX _ _
    have B:Hid (dm w ax):=by rw [aR];exact dp ag (dn _ _)
    have W:Hid (∀ R,R<wr.heap.size->ax.heap[R]? = wr.heap[R]?):=by rw [aR];exact fun R b3=>(dn wr _).block R b3
    obtain ⟨w2,hup,aZ,f⟩:=af.put Oh x.name bF (j:Int) OH
    have H:Hid (gc w2 (w.heap.size+1) (j+1) (hr ns1)):=by show gc _ _ _ _;rw [aV.out,cC.out,ca.out];exact aZ
    have m:=hid (C8 f N7 bl);have O:=hid (B.grown f B.size (fun R b3=>by cases b3;exact rT _));have U:Hid (w2.heap[w.heap.size]? = wr.heap[w.heap.size]?):=(f.block _ (by have:=lt_of_heap bl;omega) (fun e=>by have:=eX e;omega)).trans (W _ N7);have cg:=hid (aS.keep (G:=w2) (fun R F J=>(f.block R (by have:=lt_of_heap bl;omega) (fun e=>by have:=eX e;omega)).trans (W R J)));have bA:wr.heap.size<w2.heap.size:=e4 (lt_of_heap bl) f.size;obtain ⟨bk,bz,bO,c1,c5,_⟩:=ep bl;have cy:=lt_of_heap bl;have bf:=hid (And.intro (fun k e=>(aS.on.lt k e).2) (fun k e=>(aS.ob.lt k e).2));clear aZ f af L aS W;go_wp2_with fail;rw [← aR];clear aR;rw [hup];obtain ⟨bN,aJ,aI,bq,bo,_⟩:=ep m
    have cf:=lt_of_heap m;clear bk bz bO c1 c5 cy bt ah ae c3 K hup B bl;go_wp2_with fail;generalize d8:wr.heap.size=xb at *
    go_loopw [12,37] (fun v i M=>∃ k:Nat,k<=x.uses.length/\i=di k/\M.ownsRow w2.heap.size 3 1 v (k+1) (intV (hO (j :: (x.uses.take k).map (fun o=>((hr ns1 o).getD 0).toNat))))/\dm w2 M) (fun _ i _=>x.uses.length - (intOf i).toNat)
    case atStart=>exact ⟨0,dY _,rfl,⟨rfl,Or.inr ⟨w2.heap.size,1,#[di j],rfl,dA _,dX w2 _,dA _,Oh,rfl,rfl⟩⟩,dn w2 _⟩
    case round=>
     obtain ⟨k,N,rfl,ap,T⟩:=hrel;have P:=hid ap;have t:=hid T;have bX:=hid ((T.block _ (lt_of_heap m)).trans m);have bc:=hid (H.later T);clear bN aJ aI bq bo cf;obtain ⟨bN,aJ,aI,bq,bo,_⟩:=ep bX;have cf:=lt_of_heap bX;clear ap T
     by_cases be:k<x.uses.length
     . obtain ⟨bv,off2,rfl,aN,bE,am⟩:=(cV.later (dp O t)).str k be
       obtain ⟨i,V,hij,hloc, -⟩:=bi x.uses[k] (eb be);have aY:=bc.look x.uses[k] am;rw [hloc] at aY
       have c4:Hid (hO (j :: (x.uses.take (k+1)).map (fun o=>((hr ns1 o).getD 0).toNat))=hO (j :: (x.uses.take k).map (fun o=>((hr ns1 o).getD 0).toNat))++[(i:Int)]):=by show _=_;rw [gn be,j2,List.map_singleton,hloc];simp [hO]
       generalize hO (j :: (x.uses.take k).map (fun o=>((hr ns1 o).getD 0).toNat))=cq at *;generalize x.uses[k]=su at *;simp only [gE] at aY;clear hloc
       go_wp2_with (at_builtin;(refine yG rfl (.tmp 41) (.tmp 45) 49 rfl w2.heap.size 3 _ 1 8 Tryz.underlying49 Tryz.infoI rfl N9 wr u12 (k+1) (intV cq) rfl P.out #[di i] _ rfl rfl rfl (zv i) N7 N9 t.out.size ?_);intro bL av dJ ho5 br bV hkp5 hkb5;have bP:=hid ho5;have bu:=hid br;clear ho5 br bV hkp5 hkb5)
       go_roundw
       case rel=>exact ⟨k+1,N7,Ou,by rw [c4.out,Dp];exact bP,t.trans bu⟩
       case measure=>simp [intOf];omega
     . obtain rfl:k=x.uses.length:=by omega
       rw [gu,← cN.out] at P
       have d4:nr.length=x.uses.length+1:=by rw [cN.out,gY,fM]
       obtain ⟨I,bh,rfl,_,_⟩:=hS cg.on;obtain ⟨b4,aj,rfl,_,_⟩:=hS cg.ob;rw [b2,bm] at cg b9 bf;obtain ⟨d,cr,rfl,_,_⟩:=hS P;have ce:=hid (cg.keep (G:=wr) (fun R F J=>t.block R J));have cv:Hid (wr.heap[w.heap.size]? = some (.cells #[.slice (some (dj b C)) l.length aA,.slice I j bh,.slice b4 j aj,dt,.slice bD g.length p,dt,di q,di 0,di 0,di 0] 128 (0,0))):=(t.block _ N7).trans (U.trans b9);obtain ⟨aH,az,aK,aW,bg,q5,q6,q7,q8,q9,b5,qf⟩:=jt cv;have bJ:=hid (dp O t);have cG:hP (.slice d (x.uses.length+1) cr) (.slice I j bh):=hP.new P cg.on (dA _);have cJ:hP (.slice d (x.uses.length+1) cr) (.slice b4 j aj):=hP.new P cg.ob (dA _);have cM:=hid (And.intro cG cJ)
       have aM:Hid (wr.ownsRow (w.heap.size+2) 3 1 (.slice d (x.uses.length+1) cr) nr.length (intV (hO nr))):=by show World.ownsRow _ _ _ _ _ _ _;rw [d4];exact FK P N7
       have cK:w.heap.size+2<=wr.heap.size:=by have:=bc.lt;omega
       have cH:∀ (v:Value) (e:TypeId) (aX n:Nat) (ao:List Value) (Z:World),Z.ownsRow (w.heap.size+2) e aX v n ao->∀ R,R<w.heap.size+2->v.ownBlock≠some R:=fun v e aX n ao Z h R b3 a5=>by have:=(h.lt R a5).1;omega
       have HoB:=hid cH
       have cL:Hid (Value.ownBlock (.slice I j bh)≠some xb/\Value.ownBlock (.slice b4 j aj)≠some xb):=⟨fun e=>by have:=bf.1 _ e;omega,fun e=>by have:=bf.2 _ e;omega⟩
       have bR:Hid (wr.ownsRow (w.heap.size+2) 49 1 (.slice I j bh) j al):=by have:=ce.on;rw [b2] at this;exact this
       clear cG cJ P cH
       go_upto_region 15 with (at_builtin;(refine yG rfl (.tmp 52) (.tmp 54) 126 rfl (w.heap.size+2) 49 _ 1 24 Tryz.underlying126 Tryz.infoSl rfl N9 wr (.slice I j bh) j al rfl bR.out #[.slice d (x.uses.length+1) cr] _ rfl rfl rfl (by simp;rfl) N7 N9 cK ?_);intro bL av dJ ho5 br bV hkp5 hkb5;have cj:=hkb5 _ _ cv.out (HoB.out _ _ _ _ _ _ ce.out.on _ N7);obtain ⟨bG,bp,bx,bQ,r4,r5,r6,r7,r8,r9,cu,rf⟩:=jt cj;have bu:=hid cj;have cw:=hid (ce.out.addN (r:=nr) (g:=bL) (q:=av) (by rw [b2];exact ho5) (by rw [b2];exact hkp5) aM.out cM.out.1 cM.out.2);have cZ:=hid (bc.out.has (fun a3 a4=>hkb5 _ a3 a4 (HoB.out _ _ _ _ _ _ ce.out.on _ N7)));have bB:=hid br;have cx:=hid bV;have aQ:=hid (hkb5 _ _ bX.out cL.out.1);clear ho5 br bV hkp5 hkb5 cj aH az aK aW bg q5 q6 q7 q8 q9 qf)
       rw [b2] at cw
       have d0:w.heap.size≠xb:=N7
       obtain ⟨eD,aD⟩:∃ eD,eD=dJ.setCell (dj w.heap.size 1) (.slice (some (dj bL 0)) (j+1) av):=⟨_,rfl⟩
       have bW:Hid (eD.heap[w.heap.size]? = some (.cells #[.slice (some (dj b C)) l.length aA,.slice (some (dj bL 0)) (j+1) av,.slice b4 j aj,dt,.slice bD g.length p,dt,di q,di 0,di 0,di 0] 128 (0,0))):=by show _=_;rw [aD,heap_set bu.out];rfl
       have ct:=hid (cw.keep (G:=eD) (fun R F J=>by rw [aD];exact eh (by show R≠w.heap.size;omega) _));have cm:=hid (cZ.moves (G:=eD) (by rw [aD];exact eh (by show w.heap.size+1≠w.heap.size;omega) _))
       have cR:Hid (eD.heap[xb]? = some (fF x.name E x.uses.length a9 x.data a0 x.parts.length au a6 x.main.length bn)):=by show _=_;rw [aD];exact (eh (by show xb≠w.heap.size;exact fun e=>d0 e.symm) _).trans aQ
       have d2:Hid (dm w eD):=by rw [aD];exact (bJ.trans (bB.mono N7)).setCell (p:=(dj w.heap.size 1)) (dA _) _
       have cc:w.heap.size+2<=eD.heap.size:=by rw [aD];have:=cx.out;simp;omega
       have cs:Hid (eD.ownsRow (w.heap.size+2) 3 1 (.slice b4 j aj) j (intV ((hi l).take j))):=by have:=ct.ob;rw [bm] at this;exact this
       rw [← aD];clear aD bG bp bx bQ r4 r5 r6 r7 r8 r9 cu rf bN aJ aI bq bo cf;obtain ⟨aH,az,aK,aW,bg,q5,q6,q7,q8,q9,b5,qf⟩:=jt bW
       have c7:wrap64 (sj+x.data)=sj+x.data:=OO
       go_wp2_with (at_builtin;(refine yG rfl (.tmp 62) (.tmp 64) 49 rfl (w.heap.size+2) 3 _ 1 8 Tryz.underlying49 Tryz.infoI rfl N9 eD (.slice b4 j aj) j (intV ((hi l).take j)) rfl cs.out #[di sj] _ rfl rfl rfl (zv sj) N7 N9 cc ?_);intro g7 aq eP ho7 a1 cd hkp7 hkb7;have bH:=hkb7 _ _ bW.out (HoB.out _ _ _ _ _ _ ct.out.ob _ N7);obtain ⟨bG,bp,bx,bQ,r4,r5,r6,r7,r8,r9,cu,rf⟩:=jt bH;have ak:=hid bH;have ch:=hid (ct.out.addB (x:=sj) (g:=g7) (q:=aq) (by rw [bm];exact ho7) (by rw [bm];exact hkp7));have cY:=hid (cm.out.has (fun a3 a4=>hkb7 _ a3 a4 (HoB.out _ _ _ _ _ _ ct.out.ob _ N7)));have cQ:=hid (d2.out.trans (a1.mono N7));have cE:=hkb7 _ _ cR.out cL.out.2;obtain ⟨bT,b8,b7,b6,aB,_⟩:=ep cE;have d9:=lt_of_heap cE;clear ho7 a1 cd hkp7 hkb7 bH cE aH az aK aW bg q5 q6 q7 q8 q9 qf)
       rw [bm] at ch;go_roundw
       case rel=>
        refine ⟨j+1,(.slice (some (dj bL 0)) (j+1) av),(.slice (some (dj g7 0)) (j+1) aq),al++[.slice d (x.uses.length+1) cr],N7,Ou,by rw [co.out],?_,?_,?_,cQ.setCell (p:=(dj w.heap.size 2)) (dA _) _⟩
        . rw [heap_set ak.out];rfl
        . rw [cW]
          exact cY.moves (eh (by show w.heap.size+1≠w.heap.size;omega) _)
        . rw [d1.out,cn.out]
          exact ch.keep (fun R F J=>eh (by show R≠w.heap.size;omega) _)
       case measure=>simp [intOf];omega
  . obtain rfl:j=l.length:=by omega
    have b2:(fq l).take l.length=fq l:=iq (by rw [n9];exact dA _);have bb:(hi l).take l.length=hi l:=iq (by rw [oa];exact dA _);rw [b2,bb] at aS;obtain ⟨I,bh,rfl,_,_⟩:=hS aS.on;obtain ⟨b4,aj,rfl,_,_⟩:=hS aS.ob;rw [n9,oa] at aS b9;have bC:=ba l.length;rw [gu] at bC
    obtain ⟨z,hsd⟩:∃ z:Nat,fG l=z:=⟨(fG l).toNat,N7⟩
    have aU:z<=512:=by have:=cO.out;omega
    have c2:=zO z aU
    have ck:fG (l.take l.length)=(z:Int):=by rw [gu];exact hsd
    have co:=hid hsd;obtain ⟨aH,az,aK,aW,bg,q5,q6,q7,q8,q9,b5,qf⟩:=jt b9
    obtain ⟨bw,hw8⟩:∃ bw,bw=(wr.setCell (dj w.heap.size 3) (.slice (some (dj wr.heap.size 0)) z z)).alloc (.cells (intV (hh [] (z:Int))).toArray 3):=⟨_,rfl⟩
    have cU:=hid hw8
    have aP:Hid (dm w bw/\∃ s,e7 bw w.heap.size w.heap.size (fJ l q) s (dt) (jP l g) 0):=by
     have N:∀ R,R<wr.heap.size->R≠w.heap.size->bw.heap[R]? = wr.heap[R]?:=fun R F J=>by rw [hw8];exact ((dn (wr.setCell (dj w.heap.size 3) (.slice (some (dj wr.heap.size 0)) z z)) _).block R P9).trans (eh J _)
     have cl:bw.heap.size=wr.heap.size+1:=by rw [hw8];simp
     have cB:dm w bw:=by rw [hw8];exact dp (ag.setCell (p:=(dj w.heap.size 3)) (dA _) _) (dn _ _)
     have d5:=aS.keep (G:=bw) (fun R F J=>N R J N7)
     have a7:(jP l g).data=hh [] (z:Int):=by
      show List.replicate (ku l).toNat 0=_;unfold ku hh;rw [co.out];simp
     have bZ:(jP l g).data.length=z:=by rw [a7];simp [hh]
     have cP:∀ R,w.heap.size+2<=R->R<wr.heap.size->(R<wr.heap.size+1/\R≠w.heap.size/\R≠wr.heap.size):=fun R F J=>⟨N7,N7,N7⟩
     have cp:∀ {a:OA} {n:Nat} {Y:List D},dx w dQ a n Y->dx bw (·<w.heap.size) a n Y:=fun h=>(h.moves (A':=(·<w.heap.size)) ⟨dA _,fun R b3 _=>⟨b3,rfl⟩⟩).moves ⟨cB.size,fun R b3 X=>⟨X,cB.block R b3⟩⟩
     have ai:∀ {a:OA} {n:Nat} {Y:List D},dx wr (fun R=>R<wr.heap.size+1/\R≠w.heap.size/\R≠wr.heap.size) a n Y->dx bw (fun R=>R<wr.heap.size+1/\R≠w.heap.size/\R≠wr.heap.size) a n Y:=fun h=>h.moves ⟨N7,fun R b3 X=>⟨X,N R b3 X.2.1⟩⟩
     refine ⟨cB,⟨some (dj b C),aA,I,bh,b4,aj,wr.heap.size,z,wr.heap.size+1⟩,⟨bD,p,?_,cp y,cA⟩,?_,jU _ _ _ _,⟨cp b0,?_,?_,dA _,by show w.heap.size<=wr.heap.size;omega,by show w.heap.size<wr.heap.size+1;omega,by show wr.heap.size<wr.heap.size+1;omega,by show w.heap.size≠wr.heap.size;omega,by show wr.heap.size+1<=bw.heap.size;omega⟩,bZ.symm,by rw [bZ];exact aU,dY _,d3,dY _,dY _⟩
     . rw [hw8]
       refine (eR (heap_set b9 _)).trans ?_;unfold nR;rw [bZ];show some (Obj.cells _ _ _)=some (Obj.cells _ _ _);simp [fJ,n9,oa,jP]
     . rw [hw8]
       rw [a7];have:=dX (wr.setCell (dj w.heap.size 3) (.slice (some (dj wr.heap.size 0)) z z)) (.cells (intV (hh [] (z:Int))).toArray 3);rw [hk] at this;exact this
     . show dx bw (fun R=>R<wr.heap.size+1/\R≠w.heap.size/\R≠wr.heap.size) I (fq l).length (pT (fq l))
       refine ai (aS.near (n9 l).symm cP (fun r Q=>⟨(aT r Q).1,fun i V=>?_⟩) (by rw [n9];omega));unfold hO at V;obtain ⟨R,b3,rfl⟩:=ig.1 V;have:=(aT r Q).2 R b3;exact qP (by show _<=(R:Int);omega) (by show (R:Int)<=_;omega)
     . show dx bw (fun R=>R<wr.heap.size+1/\R≠w.heap.size/\R≠wr.heap.size) b4 (hi l).length (fs (hi l))
       refine ai (aS.beg (oa l).symm cP (fun i V=>?_) (by rw [oa];omega));unfold hi at V;obtain ⟨R,b3,rfl⟩:=ig.1 V;have:=ba R;have:=s3.1 b3;exact qP N7 N7
    clear hsd hw8 cO bC;simp only [ck];go_wp2_with fail;rw [← cU.out]
    go_returns
    exact ⟨rfl,aP⟩
end Go.Proofs.YtndkhgakfodldaaGreatDoor

namespace Go.Proofs.YtndkhgakfodldaaGreatDoor
open Go.RowKit Go.Shelf
variable {B b n:Nat} {a:OA} {l:List Int} {w G:World}
def gk (w:World) (a:OA) (l:List Int):Prop:=l=[]\/∃ b C,a=some (dj b C)/\b<w.heap.size/\∀ i (h:i<l.length),w.cell? ⟨b,C+i,none⟩=some (di l[i])
theorem gk.later (h:gk w a l) (I:dm w G):gk G a l:=by
 rcases h with h | ⟨b,C,a7,X,W⟩
 . exact Or.inl h
 . exact Or.inr ⟨b,C,a7,e4 X I.size,fun i h=>(I.cell (p:=⟨b,C+i,none⟩) X).trans (W i h)⟩
theorem gk.at_ (h:gk w a l) (i:Nat) (V:i<l.length):∃ b C,a=some (dj b C)/\b<w.heap.size/\w.cell? ⟨b,C+i,none⟩=some (di l[i]):=by
 rcases h with rfl | ⟨b,C,a7,X,W⟩
 . simp at V
 . exact ⟨b,C,a7,X,W i V⟩
theorem gk.own {q:Nat} (h:w.ownsRow B 3 1 (.slice a n q) n (intV l)) (Z:n=l.length):gk w a l:=by
 subst Z
 rcases h.2 with ⟨_,ab⟩ | ⟨al,f,o,e,_,ak,_⟩
 . exact Or.inl (hF ab)
 . cases e
   refine Or.inr ⟨al,0,rfl,lt_of_heap ak,fun i V=>?_⟩;have:=h.cells (g:=al) rfl i (di l[i]) (by simp [intV,V]);rw [show ((dj al 0):Addr).add i=(dj al i) from On] at this
   rw [fY];exact this
theorem gk.blk {g:Nat} (h:w.heap[g]? = some (.cells (intV l).toArray 3 (0,0))):gk w (some (dj g 0)) l:=Or.inr ⟨g,0,rfl,lt_of_heap h,fun i V=>by
 rw [eZ h,uP]
 simp [intV,V]⟩
theorem gk.take {m:List Int} (h:gk w a l) (aA:m <+: l):gk w a m:=by
 obtain ⟨n,rfl⟩:=aA
 rcases h with h | ⟨b,C,a7,X,W⟩
 . exact Or.inl (List.append_eq_nil_iff.1 h).1
 . refine Or.inr ⟨b,C,a7,X,fun i V=>?_⟩
   have:=W i (by rw [eM];omega);rw [lE V] at this;exact this
theorem gk.dat {A:Nat->Prop} (h:dx w A a l.length (fs l)):gk w a l:=by
 by_cases ab:l.length=0
 . exact Or.inl (hF ab)
 . obtain ⟨b,C,a7,I,W⟩:=h.ints N7
   exact Or.inr ⟨b,C,a7,I,fun i V=>W i l[i] (by simp [fs,V])⟩
theorem zl (h:dm w G) (m:Nat):dm w (G.drewN m):=tv h m
theorem zm (a b:OA) (ah ae:Nat) (l:List Int) (w:World) (a7:gk w a l) (I:gk w b l) (bK:l.length<=1000000) :
 dw 28 #[.slice a l.length ah,.slice b l.length ae] w fun e G=>e = .returned (.bool true)/\∃ m,G=w.drewN m:=by
 have aR:=hid a7;have ag:=hid I;clear a7 I;go_enter func28,ntmps28;go_wp2_with fail
 go_loopw [5] (fun i wr=>∃ k m:Nat,k<=l.length/\i=di k/\wr=w.drewN m) (fun i _=>l.length - (intOf i).toNat)
 case atStart=>exact ⟨0,0,dY _,rfl,rfl⟩
 case round=>
  obtain ⟨k,m,N,rfl,rfl⟩:=hrel
  by_cases ac:k<l.length
  . obtain ⟨bt,bE,rfl,bg,O⟩:=(aR.later (fQ w m)).at_ k ac
    obtain ⟨bv,ab,rfl,a9,x⟩:=(ag.later (fQ w m)).at_ k ac;have W:=hid O;generalize l[k]=lk at *;generalize ai:w.drewN m=M at *;have aS:=hid ai;clear ai;go_wp2_with fail
    go_quiet ((fail))
    go_wp2_with fail;go_roundw
    case rel=>exact ⟨k+1,m+nq,N7,Ou,by rw [← aS.out,World.drewN_drewN]⟩
    case measure=>simp [intOf];omega
  . go_wp2_with fail
    go_ret;exact ⟨rfl,m,rfl⟩
theorem zn (d tk:Int) (s a ai a8:OA) (ah ae c3 K:Nat) (l r:List Int) (w:World) (F:gk w s l) (J:gk w a l) (U:gk w ai r) (aa:gk w a8 r) (X:l.length<=1000000) (Q:r.length<=1000000) :
 dw 29 #[.agg #[di d,.slice s l.length ah,.slice ai r.length c3,di tk],.agg #[di d,.slice a l.length ae,.slice a8 r.length K,di tk]] w fun e G=>e = .returned (.bool true)/\dm w G:=by
 have aQ:Hid (∀ M,dm w M->dw 28 #[.slice s l.length ah,.slice a l.length ae] M fun e G=>e = .returned (.bool true)/\∃ m,G=M.drewN m):=fun M I=>zm s a ah ae l M (F.later I) (J.later I) X
 have aM:Hid (∀ M,dm w M->dw 28 #[.slice ai r.length c3,.slice a8 r.length K] M fun e G=>e = .returned (.bool true)/\∃ m,G=M.drewN m):=fun M I=>zm ai a8 c3 K r M (U.later I) (aa.later I) Q
 clear F J U aa X Q;have O:=hid (dp (dn w (.cells #[di d,.slice s l.length ah,.slice ai r.length c3,di tk] 51)) (dn _ (.cells #[di d,.slice a l.length ae,.slice a8 r.length K,di tk] 51)));generalize l.length=n at *;generalize r.length=k at *;go_enter func29,ntmps29;go_wp2_with fail;refine (aQ _ O).mono ?_;rintro e dk ⟨rfl,bB,rfl⟩;go_wp2_with fail;refine (aM _ (zl O bB)).mono ?_;rintro e dk ⟨rfl,bH,rfl⟩;go_wp2_with fail;go_ret;exact ⟨rfl,zl O _⟩
def rg (w:World) (r:Rs) (v:Value):Prop:=∃ Q W H aH,v = .agg #[di r.end_,.slice Q r.out.length W,.slice H r.data.length aH,di r.ticks]/\gk w Q r.out/\gk w H r.data/\r.out.length<=W
theorem rg.later {r:Rs} {v:Value} (h:rg w r v) (I:dm w G):rg G r v:=by
 obtain ⟨Q,W,H,aH,e,F,J,U⟩:=h;exact ⟨Q,W,H,aH,e,F.later I,J.later I,U⟩
def lu (l:List dN) (g:List Int) (m:Int):Int:=if hN l≠0 then hN l else if 64<g.length then 2 else if m<0\/2000<m then 3 else 0
def mA (l:List dN) (g:List Int) (m:Int):Rs:=if lu l g m=0 then (ik l g m.toNat).res else ⟨0,[],[],0⟩
def qb (w:World) (b:Nat) (af a4 am a5:Value):World:=(((w.setCell (dj b 0) af).setCell (dj b 1) a4).setCell (dj b 2) am).setCell (dj b 3) a5
theorem sA (h:Below B w G) (I:B<=b) (af a4 am a5:Value):Below B w (qb G b af a4 am a5):=
 (((h.setCell (p:=(dj b 0)) I _).setCell (p:=(dj b 1)) I _).setCell (p:=(dj b 2)) I _).setCell (p:=(dj b 3)) I _
theorem Es {k:Nat} (Z:k≠b) (af a4 am a5:Value):(qb w b af a4 am a5).heap[k]? = w.heap[k]?:=
 (eh Z _).trans ((eh Z _).trans ((eh Z _).trans (eh Z _)))
theorem gk.ne (h:gk w a l) (b2:w.heap.size<=G.heap.size) (N:∀ b,b≠n->G.heap[b]? = w.heap[b]?) (a7:∀ b C,a=some (dj b C)->l≠[]->b≠n):gk G a l:=by
 rcases h with h | ⟨b,C,e,X,W⟩
 . exact Or.inl h
 . by_cases ab:l=[]
   . exact Or.inl ab
   . exact Or.inr ⟨b,C,e,e4 X b2,fun i V=>(rj (N b (a7 b C e ab)) _).trans (W i V)⟩
theorem e7.belowB {y:Nat} {H:Cx} {K:Wk} {av q:Value} {s:Sw} {e:Int} (h:e7 w B y H K av s e) (Y:dR B K.D av q w G):Below y w G:=by
 have F:=h.ro.lB;have J:=h.ro.lD;have U:=h.ro.BS;have aa:=h.ro.zS;exact ⟨Y.os,Y.tape,Y.output,Y.size,fun k N=>Y.block k N7 N7 N7 (fun e=>by have:=(h.out.lt k e).1;omega)⟩
theorem Rr.res_eq {α:Type} (r:Rr α):r.res=⟨r.en,r.st.out,r.st.data,r.st.ticks⟩:=by cases r<;>rfl
theorem Run_any (l:List dN) (g:List Int) (m:Int) (ad:OA) (aA:Nat) (bD:OA) (p:Nat) (w:World) (an:dx w dQ ad l.length (gJ l)) (A:dx w dQ bD g.length (fs g)) (bY:g.length<=p) (aE:∀ u ∈ l,u.uses.length<=2000000) :
 dw 25 #[.slice ad l.length aA,.slice bD g.length p,di m] w fun e G=>dm w G/\∃ v,e = .returned (.tuple #[v,di (lu l g m)])/\rg G (mA l g m) v:=by
 have q:=A.bound;have D:=hid (dn w (.cells #[di 0,dt,dt,di 0] 51));have ao:=hid (Lu l ad aA _ (an.later D) aE);have b0:=hid an;have y:=hid A;have aQ:=hid aE;have cA:=hid bY
 have b6:Hid (∀ M:World,lu l g m≠0->rg M (mA l g m) (.agg #[di 0,dt,dt,di 0])):=fun M h=>by
  unfold mA;rw [if_neg h];exact ⟨none,0,none,0,rfl,Or.inl rfl,Or.inl rfl,dA _⟩
 have f:=dX w (.cells #[di 0,dt,dt,di 0] 51);have c:=hid f;clear an A aE bY f
 by_cases aG:hN l=0
 . have aq:(hN l != 0)=false:=by simp [aG]
   have b4:Hid (lu l g m=if 64<g.length then 2 else if m<0\/2000<m then 3 else 0):=if_neg (by simp [aG]);have P:=hid (Aa aG);have k:=hid aG;clear aG;go_enter func25,ntmps25;go_wp2_with fail;refine ao.mono ?_;rintro e dk ⟨rfl,I⟩;have B:=hid (dp D I);have a:=(I.block _ (lt_of_heap c)).trans c;have bl:=hid a;obtain ⟨aH,az,aK,aW,b5,qf⟩:=il a;clear I a
   by_cases i:64<g.length
   . have z:Hid (lu l g m=2):=b4.trans (if_pos i)
     go_wp2_with fail;refine bodyPost_ret (v:=.tuple #[.agg #[di 0,dt,dt,di 0],di 2]) OY rfl ⟨?_,_,Pv,b6 _ (by rw [z.out];decide)⟩;exact sA B (dA _) _ _ _ _
   . have aY:=hid (b4.trans (if_neg i))
     by_cases ax:m<0\/2000<m
     . have z:Hid (lu l g m=3):=aY.trans (if_pos ax)
       by_cases S:m<0
       . clear ax
         exact RE
       . have a8:2000<m:=ax.resolve_left S
         clear ax;exact RE
     . have z:Hid (lu l g m=0):=aY.trans (if_neg ax)
       obtain ⟨n,rfl⟩:∃ n:Nat,m=n:=⟨m.toNat,N7⟩
       have H:n<=2000:=N7
       have aV:=hid (Er l g n ad aA bD p dk (b0.later B) (y.later B) cA P.a P.n P.z P.f P.d P.s aQ N7);clear ax;go_wp2_with fail;refine aV.mono ?_;rintro e w2 ⟨rfl,aN,s,ai⟩
       have a7:s.cd=(ku l).toNat:=by rw [ai.cd];simp [jP]
       have b3:mB (fJ l n) s.cd:=by rw [a7];exact P.u n
       have L:=hid (FJ (FC b3 (n+1)) b3 ai (by show n+1<=0+(n+1);omega) P.z);have O:=hid aN;have aS:=hid ai;clear aN ai a7 b3;go_wp2_with fail;refine L.mono ?_;rintro e dC ⟨rfl,av,Y,aj⟩;have t:=hid (O.trans (aS.belowB Y))
       have c8:Hid (mA l g (n:Int)=(jw (dT (fJ l n) (n+1)) (kX (fJ l n).us) (jP l g)).res):=by show _=_;unfold mA;rw [if_pos z.out];rfl
       generalize jw (dT (fJ l n) (n+1)) (kX (fJ l n).us) (jP l g)=r at *;obtain ⟨Q,W,rfl,hco,_⟩:=hS aj.out;obtain ⟨o,ci',hbk, -, -⟩:=aj.blk;obtain ⟨bf,be,b9,bm,bk,bO,bZ,z7,z8,z9,ba,zf⟩:=jt hbk;have j:=(t.block _ (lt_of_heap bl)).trans bl;obtain ⟨bF,bo,ei,e2,bw,bV⟩:=il j;have Z:w.heap.size<dk.heap.size:=lt_of_heap bl
       have bB:w.heap.size≠dk.heap.size:=N7
       have aP:Hid (∀ af a4 am a5,rg (qb dC.drew w.heap.size af a4 am a5) (mA l g (n:Int)) (.agg #[di r.en,.slice Q r.st.out.length W,.slice (some (dj s.D 0)) r.st.data.length s.cd,di r.st.ticks])):=fun af a4 am a5=>by
        rw [c8.out,Rr.res_eq]
        have N:∀ b,b≠w.heap.size->(qb dC.drew w.heap.size af a4 am a5).heap[b]? = dC.heap[b]?:=fun b I=>Es I _ _ _ _
        have b2:dC.heap.size<=(qb dC.drew w.heap.size af a4 am a5).heap.size:=by simp [qb]
        have F:=aj.ro.lB;have J:=aj.ro.lD;have U:=aj.ro.BS;refine ⟨Q,W,some (dj s.D 0),s.cd,rfl,(gk.own aj.out rfl).ne b2 N (fun b C e ab=>?_),(gk.blk aj.data).ne b2 N (fun b C e ab=>?_),hco⟩
        . have aB:Value.ownBlock (.slice Q r.st.out.length W)=some b:=by
           rcases aj.out.2 with ⟨a0,d⟩ | ⟨al,_,_,a0,_⟩
           . exact absurd (hF d) ab
           . cases a0
             cases e
             rfl
          have:=(aj.out.lt b aB).1;omega
        . cases e
          omega
       have R:Hid (∀ af a4 am a5,dm w (qb dC.drew w.heap.size af a4 am a5)):=fun af a4 am a5=>sA (dp B (dp t (fA dC))) (dA _) _ _ _ _
       have aI:=hid z;clear Y aj j hbk L aS aV ao bf be b9 bk bZ z8;go_wp2_with fail
       go_region_held (fun M=>M.cell? (dj dk.heap.size 9)=some (di r.en)/\M.cell? (dj dk.heap.size 5)=some (.slice Q r.st.out.length W)/\M.cell? (dj dk.heap.size 3)=some (.slice (some (dj s.D 0)) r.st.data.length s.cd)/\M.cell? (dj dk.heap.size 7)=some (di r.st.ticks)) (go_keep) (fail)
       go_wp2_with fail;refine bodyPost_ret (v:=.tuple #[.agg #[di r.en,.slice Q r.st.out.length W,.slice (some (dj s.D 0)) r.st.data.length s.cd,di r.st.ticks],di 0]) (by simp [results,results25,go_sem,bF,bo,ei,e2,bw]) rfl ⟨?_,_,Pv,aP _ _ _ _⟩;exact R _ _ _ _
 . have z:Hid (lu l g m=hN l):=if_pos aG
   have aq:(hN l != 0)=true:=by simp [aG]
   have aP:=hid aG;clear aG;go_enter func25,ntmps25;go_wp2_with fail;refine ao.mono ?_;rintro e dk ⟨rfl,I⟩;have B:=hid (dp D I);obtain ⟨aH,az,aK,aW,b5,qf⟩:=il ((I.block _ (lt_of_heap c)).trans c);clear I;go_wp2_with fail;refine bodyPost_ret (v:=.tuple #[.agg #[di 0,dt,dt,di 0],di (hN l)]) OY rfl ⟨?_,_,Pv,b6 _ (by rw [z.out];exact aP)⟩;exact sA B (dA _) _ _ _ _
theorem Et {l:List dN} {g:List Int} {m:Int} (h:lu l g m=0):hN l=0/\g.length<=64/\0<=m/\m<=2000:=by
 unfold lu at h
 split at h
 . rename_i F;exact absurd h F
 . rename_i F
   split at h
   . cases h
   . split at h
     . cases h
     . exact ⟨P9,N7,N7,N7⟩
end Go.Proofs.YtndkhgakfodldaaGreatDoor
