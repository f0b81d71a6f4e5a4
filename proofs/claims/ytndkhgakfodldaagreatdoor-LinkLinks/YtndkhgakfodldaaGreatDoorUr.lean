import Derived.Deep.DeepCutAuto
import Derived.Test.YtndkhgakfodldaaGreatDoorJf
set_option maxRecDepth 100000
set_option maxHeartbeats 8000000
set_option linter.unusedSimpArgs false
set_option linter.unusedVariables false
open Go.Proofs.Tryz
open List renaming length → Ln
namespace Go.Proofs.YtndkhgakfodldaaGreatDoor
open Go.RowKit Go.Maps Go.WideMaps
variable {A:Nat->Prop} {M w:World} {b:Nat} {l:List Fc} {m:fh} {t:TypeId} {af E ae H aj:Value}
theorem IL {ops:Array Oper} {o:Oper} {a:Act} {K:Act->World->Prop} {T:Exit->Act->World->Prop} {E:Prop} (m:o.guard=none) (s x:Operand)
 (aa:o.op = .call { callee:=.builtin .append,args:=#[s,x],argTypes:=#[22,22] }) (us:List ByteArray) (b:OA) (c:Nat) (Z:a.eval s=eu) (Q:a.eval x = .slice b (Ln us) c) (g:Fx.zez w b us) (aT:Ln us<=10000)
 (h:∀ l r,r.ownsRow w.heap.size 9 1 l (Ln us) (strV us)->et w r->K (a.put o.dst l) r) :
 if Region.wanted o (yielded ops a.tmps)=true then Oper.wp prog o a w K T else E:=by
 have aq:Region.wanted o (yielded ops a.tmps)=true:=by simp [Region.wanted,m]
 rw [if_pos aq];obtain ⟨l,r,W,J,S⟩:=sM w.heap.size o.type (eu) 0 [] (ko _ _ _ _) us b c g (by omega) (eD _);refine Lib.wp_append_run w s x _ _ aa _ _ Z Q l r W (h l r (by simpa using J) ?_);exact (Below.refl w.heap.size w).grown S (eD _) (fun k N=>by simp [Value.ownBlock] at N)
theorem Tryz.infoPart:(prog.info? 106).map (fun i=>(i.zero,i.size,i.bytes))=some (some (.agg #[em 0,em 0,eu]),3,40):=by kernel_rfl
theorem IM {t:gO} {a:OA} {I:Nat} (h:eU w A a (Ln t.body) (f9 t.body)):fG w A t.ds [em t.params,em t.locals,.slice a (Ln t.body) I]:=.cons jX (.cons jX (.cons h.val .nil))
theorem IO (l:List gO) (x:gO):iI (l++[x])=iI l++x.ds:=by simp [iI]
theorem uJ (h:w.heap[b]? = some (.cells #[af,E,ae,H,aj] t (0,0))):w.cell? (ep b 0)=some af/\w.cell? (ep b 1)=some E/\w.cell? (ep b 2)=some ae/\w.cell? (ep b 3)=some H/\w.cell? (ep b 4)=some aj/\(∀ i,w.frozen? (ep b i)=false)/\b<w.heap.size:=by
 obtain ⟨a3,G,J,S,a6,ap⟩:=fi h;exact ⟨a3,G,J,S,a6,ap,lt_of_heap h⟩
theorem xO (F:b<M.heap.size) (h:M.cell? (ep b 0)=some af/\M.cell? (ep b 1)=some E) (o:Obj):(M.alloc o).cell? (ep b 0)=some af/\(M.alloc o).cell? (ep b 1)=some E:=
 ⟨((ey M o).cell (p:=(ep b 0)) F).trans h.1,((ey M o).cell (p:=(ep b 1)) F).trans h.2⟩
theorem IP (F:b<M.heap.size) (h:M.cell? (ep b 0)=some af/\M.cell? (ep b 1)=some E) (o:Obj):(M.alloc o).drew.cell? (ep b 0)=some af/\(M.alloc o).drew.cell? (ep b 1)=some E:=xO F h o
theorem IQ {c:Nat} (U:b≠c) (h:M.cell? (ep b 0)=some af/\M.cell? (ep b 1)=some E) (u0 u1 u2 u3 u4:Value) :
 (((((M.setCell (ep c 0) u0).setCell (ep c 1) u1).setCell (ep c 2) u2).setCell (ep c 3) u3).setCell (ep c 4) u4).cell? (ep b 0)=some af/\(((((M.setCell (ep c 0) u0).setCell (ep c 1) u1).setCell (ep c 2) u2).setCell (ep c 3) u3).setCell (ep c 4) u4).cell? (ep b 1)=some E:=by
 have e:(((((M.setCell (ep c 0) u0).setCell (ep c 1) u1).setCell (ep c 2) u2).setCell (ep c 3) u3).setCell (ep c 4) u4).heap[b]? = M.heap[b]?:=(fa U _).trans ((fa U _).trans ((fa U _).trans ((fa U _).trans (fa U _))));exact ⟨(md (w:=M) (a:=(ep b 0)) e).trans h.1,(md (w:=M) (a:=(ep b 1)) e).trans h.2⟩
theorem mJ (w:World):et w w.drew:=(Below.refl _ _).drew
theorem gX (w:World) (o:Obj):et w (w.alloc o).drew:=((Below.refl _ w).alloc (eD _) o).drew
theorem IR {T:World} (F:Below (w.alloc (.cells #[af,E,ae,H,aj] t)).drew.heap.size (w.alloc (.cells #[af,E,ae,H,aj] t)).drew T) :
 T.cell? (ep w.heap.size 0)=some af/\T.cell? (ep w.heap.size 1)=some E/\T.cell? (ep w.heap.size 2)=some ae/\T.cell? (ep w.heap.size 3)=some H/\T.cell? (ep w.heap.size 4)=some aj/\(∀ i,T.frozen? (ep w.heap.size i)=false)/\w.heap.size<T.heap.size:=by
 have h:T.heap[w.heap.size]? = some (.cells #[af,E,ae,H,aj] t):=(F.block w.heap.size (by show w.heap.size<(w.alloc _).heap.size;simp)).trans (eT w _);obtain ⟨a3,G,J,S,a6,ap⟩:=fi h;exact ⟨a3,G,J,S,a6,ap,lt_of_heap h⟩
theorem BM:∀ (l:List ByteArray),(∀ s ∈ l,s.size<=maxLen)->fG w A (fj l) (strV l)
 | [],_=>.nil
 | s :: O,h=>.cons (mx (h s (by simp))) (BM O fun q Q=>h q (by simp [Q]))
theorem IU {B:Nat} {v:Value} {l:List ByteArray} (h:w.ownsRow B 9 1 v (Ln l) (strV l)) (Z:∀ s ∈ l,s.size<=maxLen):∀ a I,v = .slice a (Ln l) I->eU w (B<=·) a (Ln l) (fj l):=by
 rintro a I rfl;exact eU.of_own h (fun _ h=>h) (BM l Z)
theorem IV (m:fh) (v:Value) (Y:OA) (a9:Nat) (a5:OA) (a4:Nat) (a7:OA) (c3:Nat) (ay:OA) (am:Nat) (l:List Fc) (al:OA) (bL:Nat) (w:World) (aS:hm w eV m v Y a9 a5 a4 a7 c3 ay am) (ah:m.err=0) (br:eE w eV al (Ln l) (qE l)) (bx:Ln l<=3) (aZ:∀ f ∈ l,Ln f.items<=16) :
 ew 64 #[v,.slice al (Ln l) bL] w fun e r=>BK w.heap.size (mI m l) e r/\et w r:=by
 obtain rfl:=aS.val;have aq:=hid aS;have bR:=xy ah;have cn:=hid (sJ ah);have c2:=hid br;have cd:=hid aZ;have ao:=hid (xB m _ Y a9 a5 a4 a7 c3 ay am ((w.alloc (jB m.name Y (Ln m.uses) a9 a5 (Ln m.decls) a4 a7 (Ln m.procs) c3 ay (Ln m.main) am)).alloc (g5 ⟨#[]⟩ none 0 0 0 none 0 0 none 0 0)) (aS.later (gc _ _ _)) bR)
 have cy:Hid ((iV m).length<=16):=by have G:=bR.decls;have J:=bR.procs;show (iV m).length<=16;rw [xw];omega
 have cA:=bR.decls;have cP:=bR.procs;clear aS br aZ ah bR;go_enter func64,ntmps64;go_wp2_with fail;refine ao.mono ?_;rintro e eq ⟨⟨b9,aA,rfl,hit⟩,ai⟩;have B:=hid (es (gc w _ _) ai);have b0:=ai.size;simp at b0;have c4:=hid ((ai.block w.heap.size (by simp;omega)).trans (fF (eT w _)));have ce:Hid (eq.heap[w.heap.size+1]? = some (g5 ⟨#[]⟩ none 0 0 0 none 0 0 none 0 0)):=(ai.block (w.heap.size+1) (by simp)).trans (by simpa using eT (w.alloc _) _);obtain ⟨az,p⟩:=xA hit;have ca:=hid az;have c5:=hid p;have aP:=@run_makeMap prog;have cE:=hid ((iW.made eq).later (ey _ (.cells #[.map (some eq.heap.size)] 189)));have cZ:=hid (BL az (R:=eq.heap.size) (eD _));have bB:=hid (BH (fun _ _=>none) eq.heap.size 0 ⟨#[]⟩ 0 (iV m) b9 aA ((eq.alloc (.map #[] 0)).alloc (.cells #[.map (some eq.heap.size)] 189)) cE (eY _) (az.later (gc _ _ _)) p (by have:=cy.out;omega) (by omega) cZ)
 clear ai hit az p ao;go_wp2_with fail;refine bB.mono ?_;rintro e w2 ⟨rfl,hkm,aa⟩
 have c0:Hid (iW w2 eq.heap.size (iV m).length (qF m)):=by have:=hkm;rw [hv] at this;exact this
 have aH:=hid aa;clear hkm aa bB aP cE;go_wp2_with fail
 go_loopw [9,10,30] (fun _ _ i wr=>∃ (j n:Nat),j<=Ln l/\i=em j/\n<=16+16*j/\iW wr eq.heap.size n (oM (qF m) (l.take j))/\eI eq.heap.size ((eq.alloc (.map #[] 0)).alloc (.cells #[.map (some eq.heap.size)] 189)) wr) (fun _ _ i _=>Ln l - (intOf i).toNat)
 case atStart=>exact ⟨0,_,eY _,rfl,by have:=cy.out;omega,c0,aH⟩
 case round =>
  clear c0 aH;obtain ⟨j,n,ac,rfl,U,hkm,aa⟩:=hrel;have c0:=hid hkm;have aH:=hid aa;have bN:=aa.size;simp at bN;have x:wr.heap[eq.heap.size+1]? = some (.cells #[.map (some eq.heap.size)] 189):=(aa.block _ (by simp) (by omega)).trans (by simpa using eT (eq.alloc (.map #[] 0)) (.cells #[.map (some eq.heap.size)] 189));have d5:=hid x
  have ag:wr.cell? ⟨eq.heap.size+1,0,none⟩=some (.map (some eq.heap.size)):=by rw [fU x];rfl
  have cw:=lt_of_heap x;have au:Hid (et w wr):=eI.below (es B (gc _ _ _)) aH (by omega) (by simp;omega);clear hkm aa x
  by_cases a0:j<Ln l
  . obtain ⟨b,C,S,g,rfl,ap,af,E,bu,hdj⟩:=(c2.later au).fc j a0
    obtain ⟨bA,cf,aj',cj',ak,hbl0,_,x1',_,hdj0⟩:=c2.fc j a0
    have cv:aj'=S:=by
     have bT:=fe ak
     injection bT with aw aE
     subst aw aE;have:=(au.cell (p:=⟨b,C+j*2+1,none⟩) hbl0).trans x1';rw [this] at E;have:=fe E;injection this
    subst cv;obtain ⟨bz,HFj⟩:=xN hdj;have cM:=BL (xN hdj0).1 (R:=eq.heap.size) (by omega);have d9:=cd l[j] (fO _)
    have ab:Hid (lU (oM (qF m) (l.take j)) l[j].name ((j:Int)+1) l[j].items=oM (qF m) (l.take (j+1))):=by
     show _=oM (qF m) (l.take (j+1));rw [hI a0,IF,ky,t7 (by omega)]
    have c9:IntKind.i64.wrap ((j:Int)+1)=(j:Int)+1:=by simp only [IntKind.wrap,IntKind.bits,IntKind.signed];simp;omega
    clear ak hbl0 x1' hdj hdj0;generalize l[j]=f at *;have bI:=hid (BH (oM (qF m) (l.take j)) eq.heap.size n f.name ((j:Int)+1) f.items aj' g (wr.alloc (.cells #[.string f.name,.slice aj' (Ln f.items) g] 30)) (c0.later (ey _ _)) bu (bz.later (ey _ _)) HFj (by omega) (by omega) cM);clear bu bz HFj cM;go_wp2_with fail;refine bI.mono ?_;rintro e eC ⟨rfl,hkm3,hke3⟩;rw [ab.out] at hkm3;have cX:=hid hkm3;have bV:=hid ((aH.alloc (.cells #[.string f.name,.slice aj' (Ln f.items) g] 30)).trans hke3);clear hkm3 hke3 bI;go_wp2_with fail;go_roundw
    case rel=>exact ⟨j+1,n+Ln f.items,by omega,by go_num,by omega,cX,bV⟩
    case measure=>simp [intOf];omega
  . obtain rfl:j=Ln l:=by omega
    have d4:Hid (jg wr (.map (some eq.heap.size)) (kF m l)):=by have:=c0.known;rw [iA] at this;exact this
    have ci:Hid (wr.heap[w.heap.size]? = some (jB m.name Y (Ln m.uses) a9 a5 (Ln m.decls) a4 a7 (Ln m.procs) c3 ay (Ln m.main) am)):=(aH.block _ (by simp;omega) (by omega)).trans (fF (fF c4));have cp:Hid (wr.heap[w.heap.size+1]? = some (g5 ⟨#[]⟩ none 0 0 0 none 0 0 none 0 0)):=(aH.block _ (by simp;omega) (by omega)).trans (fF (fF ce));have bU:=hid (fun M (L:et wr M)=>((lT aq.uses).1.later (es au L)));obtain ⟨af,E,ae,H,aj,bc⟩:=fi ci;have bq:=lt_of_heap ci;have cg:=cn.1;have cV:=hid (lT aq.uses).2;have cC:=hid (fun M (L:et wr M)=>uJ ((L.block _ bq).trans ci));clear c0 aH ag;go_wp2_with fail
    obtain ⟨a,hwL⟩:∃ q,q=wr:=⟨_,rfl⟩
    subst hwL
    go_cut [11] (fun v wc=>∃ (U:Nat) (O:OA) (a1:Nat),v=eL U 0/\a.heap.size<=U/\Hid (et a wc)/\Hid (wc.heap[U]? = some (g5 m.name O (Ln m.uses) a1 (j0 m) none 0 0 none 0 0))/\Hid (eU wc (fun b=>a.heap.size<=b/\b≠U) O (Ln m.uses) (fj m.uses)))
    case first=>
     have cT:w.heap.size≠a.heap.size:=by omega
     have cF:Hid (a.cell? (ep w.heap.size 0)=some (.string m.name)/\a.cell? (ep w.heap.size 1)=some (.slice Y (Ln m.uses) a9)):=⟨af,E⟩
     have bv:Hid (a.drew.cell? (ep w.heap.size 0)=some (.string m.name)/\a.drew.cell? (ep w.heap.size 1)=some (.slice Y (Ln m.uses) a9)):=⟨af,E⟩
     go_region_held_law (fun M=>M.cell? (ep w.heap.size 0)=some (.string m.name)/\M.cell? (ep w.heap.size 1)=some (.slice Y (Ln m.uses) a9)) (first | with_reducible exact bv | with_reducible exact xO cq bv _ | with_reducible exact IP bq cF _ | with_reducible exact xO bq cF _ | with_reducible exact IQ cT bv _ _ _ _ _)
      (first | (refine IL rfl _ _ rfl m.uses Y a9 rfl rfl (bU _ (by first | exact mJ a | exact gX a _)) (by omega) ?_;intro vu T hou bO;have cK:=hid (IU hou cV);obtain ⟨O,a1,rfl,_⟩:=sN hou;clear hou;(first | (refine And.elim ?_ (IR bO);intro bT R;obtain ⟨aw,aE,b4,b8,ef,cr⟩:=R;refine And.elim ?_ (cC T (es (gX a _) bO));intro bJ fr;obtain ⟨bk,bm,b5,bP,ff,cq⟩:=fr;have cj:=hid (es (gX a _) bO);have bv:=hid (And.intro bJ bk)) | (refine And.elim ?_ (cC T (es (mJ a) bO));intro bJ fr;obtain ⟨bk,bm,b5,bP,ff,cq⟩:=fr;have cj:=hid (es (mJ a) bO);have bv:=hid (And.intro bJ bk)))))
     . have aO:Hid (et a (T.alloc (g5 m.name O (Ln m.uses) a1 (j0 m) none 0 0 none 0 0))):=es cj (ey _ _)
       have bl:Hid ((T.alloc (g5 m.name O (Ln m.uses) a1 (j0 m) none 0 0 none 0 0)).heap[T.heap.size]? = some (g5 m.name O (Ln m.uses) a1 (j0 m) none 0 0 none 0 0)):=eT _ _;have ar:Hid (eU (T.alloc (g5 m.name O (Ln m.uses) a1 (j0 m) none 0 0 none 0 0)) (fun b=>a.heap.size<=b/\b≠T.heap.size) O (Ln m.uses) (fj m.uses)):=(cK O a1 rfl).moves ⟨by simp,fun b F h=>⟨⟨h,by omega⟩,(ey _ _).block b F⟩⟩;have d:a.heap.size<=T.heap.size:=cj.size;go_wp2_with fail;go_meet;exact ⟨_,O,a1,rfl,d,aO,bl,ar⟩
     . have aO:Hid (et a (((((T.setCell (ep a.heap.size 0) (.string m.name)).setCell (ep a.heap.size 1) (.slice O (Ln m.uses) a1)).setCell (ep a.heap.size 2) (em (j0 m))).setCell (ep a.heap.size 3) (eu)).setCell (ep a.heap.size 4) (eu))):=ik cj (eD _) _ _ _ _ _
       have bl:Hid ((((((T.setCell (ep a.heap.size 0) (.string m.name)).setCell (ep a.heap.size 1) (.slice O (Ln m.uses) a1)).setCell (ep a.heap.size 2) (em (j0 m))).setCell (ep a.heap.size 3) (eu)).setCell (ep a.heap.size 4) (eu)).heap[a.heap.size]? = some (g5 m.name O (Ln m.uses) a1 (j0 m) none 0 0 none 0 0)):=heap_set (heap_set (heap_set (heap_set (heap_set ((bO.block a.heap.size (by show a.heap.size<(a.alloc _).heap.size;simp)).trans (eT a _)) _) _) _) _) _;have ar:Hid (eU (((((T.setCell (ep a.heap.size 0) (.string m.name)).setCell (ep a.heap.size 1) (.slice O (Ln m.uses) a1)).setCell (ep a.heap.size 2) (em (j0 m))).setCell (ep a.heap.size 3) (eu)).setCell (ep a.heap.size 4) (eu)) (fun b=>a.heap.size<=b/\b≠a.heap.size) O (Ln m.uses) (fj m.uses)):=((cK O a1 rfl).moves ⟨eD _,fun b F h=>⟨(⟨by have:(a.alloc _).heap.size<=b:=h;simp at this;omega,by have:(a.alloc _).heap.size<=b:=h;simp at this;omega⟩:a.heap.size<=b/\b≠a.heap.size),rfl⟩⟩:eU T (fun b=>a.heap.size<=b/\b≠a.heap.size) O (Ln m.uses) (fj m.uses)).moves ((eQ.refl T (fun b=>a.heap.size<=b/\b≠a.heap.size)).set5 (by intro k _ N;exact N.2) _ _ _ _ _)
       have d:a.heap.size<=a.heap.size:=eD _;go_wp2_with fail;go_meet;exact ⟨_,O,a1,rfl,d,aO,bl,ar⟩
    case rest=>
     obtain ⟨U,O,a1,rfl,d,aO,bl,ar⟩:=hcut;have dd:=lt_of_heap bl;have ct:=hid ((aO.block _ bq).trans ci);have cu:=hid ((aO.block _ (lt_of_heap cp)).trans cp);have X:=hid ((aO.block _ cw).trans d5);have aI:=lt_of_heap cp;clear af E ae H aj bc;generalize wc=W3 at *;obtain ⟨af,E,ae,H,aj,bc⟩:=fi ct;have d3:=lt_of_heap ct;have cY:=lt_of_heap cu;have d1:=lt_of_heap X;have bE:=aO.size;go_wp2_with fail;clear af E ae H aj bc
     go_loopw [13,14,15,54] (fun _ _ _ i co=>∃ (j:Nat) (P:List gO) (c7:Value),j<=Ln m.procs/\i=em j/\Ln P=j/\iX (kF m l) (m.procs.take j) = .ok P/\co.heap[U]? = some (.cells #[.string m.name,.slice O (Ln m.uses) a1,em (j0 m),c7,eu] 42)/\Row W3.heap.size 106 3 co c7 (Ln P) (iI P)/\eI U W3 co) (fun _ _ _ i _=>Ln m.procs - (intOf i).toNat)
     case atStart=>exact ⟨0,[],eu,eY _,rfl,rfl,rfl,bl,Row.nil _ _ _ _,eI.refl _ _⟩
     case round=>
      clear bl;obtain ⟨j,P,c7,ac,rfl,hacc,hpm,c1,ba,aa⟩:=hrel;have cm:=hid hpm;have ad:=hid c1;have cc:=hid ba;have cH:=hid aa;have db:=aa.size;have cU:=lt_of_heap c1;have bQ:=hid ((aa.block _ d3 (by omega)).trans ct);have av:=hid ((aa.block _ cY (by omega)).trans cu);have cJ:=hid ((aa.block _ d1 (by omega)).trans X);have cQ:Hid (et a wr):=eI.below aO aa d (by omega);have a8:=hid (es au cQ);have cG:=hid (d4.later cQ);obtain ⟨af,E,ae,H,aj,bc⟩:=fi bQ
      have bH:wr.cell? ⟨eq.heap.size+1,0,none⟩=some (.map (some eq.heap.size)):=by rw [fU cJ.out];rfl
      have d8:=lt_of_heap bQ;have cD:=lt_of_heap av;have dc:=lt_of_heap cJ;clear hpm c1 ba aa
      by_cases a0:j<Ln m.procs
      . obtain ⟨b,C,an,aL,aD,aU,aR,bd,rfl,Q⟩:=(aq.procs.later a8).pr j a0
        obtain ⟨ap,bM,ax,bf,aQ,bn,bX,bY,bW,bu⟩:=Q;obtain ⟨cL,ck,bG⟩:=cn.2.2.2.1 m.procs[j] (fO _);have bZ:=hid (fun c (ah:na (kF m l) m.procs[j] = .error c)=>II (IG a0 cm ah));have bh:=hid (fun o (ah:na (kF m l) m.procs[j] = .ok o)=>IH a0 cm ah);generalize m.procs[j]=y at *;have aF:=hid (IE (kF m l) eq.heap.size y an aL aD aU aR bd (wr.alloc (me y.name y.pub an (Ln y.params) aL aD (Ln y.locals) aU aR (Ln y.body) bd)) (cG.later (ey _ _)) (bX.later (ey _ _)) (bY.later (ey _ _)) (bW.later (ey _ _)) cL ck bG);clear bX bY bW cL ck bG bu af E ae H aj bc;go_wp2_with fail;refine aF.mono ?_;rintro e eA ⟨a3,aW⟩;have b1:=hid (es (ey wr _) aW);have bp:=aW.size;simp at bp;clear aW aF bH bM ax bf aQ bn
        cases W:na (kF m l) y with
        | error c=>
          rw [W] at a3;obtain ⟨cb,py,bF,pk,bC,rfl,aV⟩:=a3;have z:=hid (bZ c W);have aK:=(b1.block _ cD).trans av;have c8:=lt_of_heap aK;obtain ⟨bg,b2,bi,bt,r4,rf⟩:=fi aK;clear W aK;go_wp2_with fail;refine bodyPost_ret (v:=.tuple #[.agg #[.string ⟨#[]⟩,eu,em 0,eu,eu],em c]) (by simp [results,results64,go_sem,bg,b2,bi,bt,r4,c8]) rfl ⟨by rw [z.out];exact ⟨rfl,aV⟩,?_⟩;exact (ik (es a8 b1) (by omega) _ _ _ _ _).alloc (by simp;omega) _
        | ok t=>
          rw [W] at a3;obtain ⟨bF,bC,rfl,hea⟩:=a3;have z:=hid (bh t W);have aM:=hid ((b1.block _ cU).trans ad);have cz:Hid (Row W3.heap.size 106 3 (eA.alloc (mg t.params t.locals bF (Ln t.body) bC)) c7 (Ln P) (iI P)):=(cc.later b1).alloc _;have cR:Hid (fG (eA.alloc (mg t.params t.locals bF (Ln t.body) bC)) (wr.heap.size+1<=·) t.ds [em t.params,em t.locals,.slice bF (Ln t.body) bC]):=IM (hea.moves (((eQ.refl eA _).alloc _).trans ⟨eD _,fun b _ h=>⟨by simp at h;exact h,rfl⟩⟩));have c6:=hid (fun k N=>(cc.lt k N).2);obtain ⟨cB,I,K,V,a6,of⟩:=fi aM;have d0:=lt_of_heap aM;have cN:=hid (((cH.later b1)).alloc (mg t.params t.locals bF (Ln t.body) bC));clear W hea
          go_wp2_with (at_builtin;refine mP rfl (.tmp 69) (.tmp 71) 39 rfl W3.heap.size 106 _ 3 40 Tryz.underlying39 Tryz.infoPart rfl (by decide) (eA.alloc (mg t.params t.locals bF (Ln t.body) bC)) c7 (Ln P) (iI P) t.ds rfl cz #[em t.params,em t.locals,.slice bF (Ln t.body) bC] _ (by simp) rfl rfl (wr.heap.size+1<=·) cR ?_ (by omega) (by decide) (by simp;omega) ?_)
          . intro b _ F
            have aJ:wr.heap.size+1<=b:=F;exact ⟨by omega,fun h=>by have:=c6 b h;omega⟩
          . intro bs aX eJ s bb bK
            have cx:=hid (cN.belowOf bb);have cl:=hid ((bb.block _ (by omega)).trans (fF aM));have a2:=hid (s.set (p:=(ep U 3)) (by show U<W3.heap.size;omega) (.slice (some (ep bs 0)) (j+1) aX));have d2:Hid ((eJ.setCell (ep U 3) (.slice (some (ep bs 0)) (j+1) aX)).heap[U]? = some (g5 m.name O (Ln m.uses) a1 (j0 m) (some (ep bs 0)) (j+1) aX none 0 0)):=heap_set cl _;have cW:=hid (cx.own 3 (.slice (some (ep bs 0)) (j+1) aX));obtain ⟨b3,D,b6,fX,bw,sf⟩:=fi cl;have d7:=lt_of_heap cl;clear s bb cz cR cB I K V a6 of cx cN;go_wp2_with fail;go_roundw
            case rel=>exact ⟨j+1,P++[t],_,by omega,by go_num,by simp [hacc],z,d2,by rw [IO,gn,hacc];exact a2,cW⟩
            case measure=>simp [intOf];omega
      . obtain rfl:j=Ln m.procs:=by omega
        have cO:Hid (iX (kF m l) m.procs = .ok P):=by have:=cm.out;rw [iA] at this;exact this
        have aG:=hid (uA 6 m.main cn.2.2.2.2 (kF m l) (fun _=>none) (.map (some eq.heap.size)) (.map none) eV ay am wr cG (IA wr) (aq.main.later a8));go_wp2_with fail;refine aG.mono ?_;rintro e eA ⟨a3,aW⟩;have b1:=hid aW;have bp:=aW.size;have aK:=(aW.block _ cD).trans av;have c8:=lt_of_heap aK;obtain ⟨bg,b2,bi,bt,r4,rf⟩:=fi aK;have aM:=hid ((aW.block _ cU).trans ad);clear aW aG aK bH af E ae H aj bc
        cases W:gN (kF m l) (fun _=>none) m.main with
        | error c=>
          rw [W] at a3;obtain ⟨rfl,aV⟩:=a3;have z:=hid (IJ cO W);clear W;go_wp2_with fail;refine bodyPost_ret (v:=.tuple #[.agg #[.string ⟨#[]⟩,eu,em 0,eu,eu],em c]) (by simp [results,results64,go_sem,bg,b2,bi,bt,r4,c8]) rfl ⟨by rw [z.out];exact ⟨rfl,aV⟩,?_⟩;exact ik (es a8 b1) (by omega) _ _ _ _ _
        | ok gY=>
          rw [W] at a3;obtain ⟨b7,bj,rfl,hea⟩:=a3;have z:=hid (IK cO W);obtain ⟨cs,bo,rfl,hep⟩:=cc.slice;obtain ⟨cB,I,K,V,a6,of⟩:=fi aM;have d0:=lt_of_heap aM
          have de:U≠w.heap.size+1:=by omega
          have bD:Hid (∀ u Z aK aN aY be,∀ A:Nat->Prop,(∀ b,A b->w.heap.size+2<=b/\b≠U)->eQ eA A (set5 (eA.setCell (ep U 4) u) (w.heap.size+1) Z aK aN aY be) (w.heap.size<=·)):=fun u Z aK aN aY be A aT=>
           (((eQ.refl eA A).set (p:=(ep U 4)) (fun b _ F=>(aT b F).2) u).set5 (b:=w.heap.size+1) (fun b _ F=>by have:=(aT b F).1;omega) Z aK aN aY be).trans ⟨eD _,fun b _ h=>⟨by have:=(aT b h).1;show w.heap.size<=b;omega,rfl⟩⟩
          have ch:Hid (eU eA (fun b=>a.heap.size<=b/\b≠U) O (Ln m.uses) (fj m.uses)):=(ar.moves ((eQ.refl W3 _).keeps cH (fun b _ h=>h.2))).later b1;have aB:Hid (eU eA (W3.heap.size<=·) cs (Ln P) (iI P)):=hep.later b1;have d6:Hid (eU eA (wr.heap.size<=·) b7 (Ln gY) (f9 gY)):=hea;have da:=au.size;clear W hea hep cc;go_wp2_with fail;refine bodyPost_ret (v:=.tuple #[.agg #[.string m.name,.slice O (Ln m.uses) a1,em (j0 m),.slice cs (Ln P) bo,.slice b7 (Ln gY) bj],em 0]) (by simp [results,results64,go_sem,bg,b2,bi,bt,r4,c8,hacc]) rfl ⟨?_,?_⟩
          . rw [z.out]
            exact ⟨O,a1,cs,bo,b7,bj,rfl,ch.moves (bD _ _ _ _ _ _ _ (fun b h=>⟨by have:=h.1;omega,h.2⟩)),aB.moves (bD _ _ _ _ _ _ _ (fun b h=>by have:W3.heap.size<=b:=h;exact ⟨by omega,by omega⟩)),d6.moves (bD _ _ _ _ _ _ _ (fun b h=>by have:wr.heap.size<=b:=h;exact ⟨by omega,by omega⟩))⟩
          . exact ik ((es a8 b1).setCell (p:=(ep U 4)) (by show w.heap.size<=U;omega) _) (by omega) _ _ _ _ _
def iY (p:Fc × ByteArray):Bool:=Fx.zmp p.1 == 0&&decide (p.1.name=p.2)
def oN (m:fh) (l:List Fc):Except Int ga:=
 if j1 m≠0 then .error (j1 m) else if Ln l≠Ln m.uses then .error 8 else if (l.zip m.uses).all iY then mI m l else .error 1
theorem IW (a2:Ln l=Ln m.uses) (j:Nat) (h:j<Ln l):((l.zip m.uses).take (j+1)).all iY=(((l.zip m.uses).take j).all iY&&iY (l[j],m.uses[j]'(by omega))):=by
 have aS:j<(l.zip m.uses).length:=by rw [t8];omega
 rw [hI aS,lL,w1];simp
theorem IX (a2:Ln l=Ln m.uses) (j:Nat) (h:j<Ln l) (ag:iY (l[j],m.uses[j]'(by omega))=false):(l.zip m.uses).all iY=false:=by
 have aS:j<(l.zip m.uses).length:=by rw [t8];omega
 rw [rl];exact ⟨(l.zip m.uses)[j],fO _,by rw [w1];simp [ag]⟩
theorem IY (a2:Ln l=Ln m.uses) (h:(l.zip m.uses).all iY=true):∀ f ∈ l,Ln f.items<=16:=by
 intro f ag;obtain ⟨j,ac,rfl⟩:=kx ag
 have aS:j<(l.zip m.uses).length:=by rw [t8];omega
 have:=hJ.1 h _ (fO aS);rw [w1] at this;unfold iY at this;simp only [fs,beq_iff_eq] at this;have a1:=this.1;unfold Fx.zmp at a1
 by_cases aZ:16<Ln l[j].items
 . rw [if_pos aZ] at a1;cases a1
 . omega
section
variable {P:Program} {ops:Array Oper} {T:Exit->Act->World->Prop} {k:Region.Mode} {S:World->Prop} {I:Op} {K:TypeId} {V:String} {a6:Array Edge} {b:Option (Nat × Bool)} {v:Value} {p:Nat} {e:Array Bool} {a:Act} {w:World}
theorem tq (i d:Nat) (g:S w) (h:wpAnyH P k ops T S p (e.setIfInBounds i true) (a.put (some d) v) w) (X:ops[i]? = some (Oper.mk (some d) I K V a6 b):=by exact rfl)
 (af:Region.wanted (Oper.mk (some d) I K V a6 b) (yielded ops a.tmps)=true:=by rfl) (z:∀ w,S w->(execOp a.eval (Oper.mk (some d) I K V a6 b)).run P w = .ok (.value v) w:=by (intro w hSw;(try dsimp only at hSw);go_simp;(try with_reducible rfl)))
 (F:(Region.noSelect ops&&(Region.free k ops e i&&(Region.ready k ops e).contains i))=true:=by kernel_rfl)
 (f:∀ c a w,T (.panic c) (a.put (some d) v) w->T (.panic c) a w:=by exact fun _ _ _ h=>h):wpAnyH P k ops T S (p+1) e a w:=by
 simp only [fs] at F;exact wpAnyH_take X F.1 F.2.1 F.2.2 f (Or.inl ⟨af,z⟩) g h
theorem tu (i d:Nat) (g:S w) (h:wpAnyH P k ops T S p (e.setIfInBounds i true) (a.put (some d) undef) w) (X:ops[i]? = some (Oper.mk (some d) I K V a6 b):=by exact rfl)
 (af:Region.wanted (Oper.mk (some d) I K V a6 b) (yielded ops a.tmps)=false:=by rfl)
 (F:(Region.noSelect ops&&(Region.free k ops e i&&(Region.ready k ops e).contains i))=true:=by kernel_rfl)
 (f:∀ c a w,T (.panic c) (a.put (some d) undef) w->T (.panic c) a w:=by exact fun _ _ _ h=>h):wpAnyH P k ops T S (p+1) e a w:=by
 simp only [fs] at F;exact wpAnyH_take X F.1 F.2.1 F.2.2 f (Or.inr ⟨af,rfl⟩) g h
end
theorem BN (a b:ByteArray):(a.toList == b.toList)=decide (a=b):=by
 rw [ow];simp only [beq_iff_eq,decide_eq_true_eq]
 constructor
 . intro h
   rw [iB,iB] at h;exact uI h
 . rintro rfl;rfl
theorem IZ (f:Fc) (h:Fx.zmp f≠0):Fx.zmp f=1\/Fx.zmp f=2:=by
 unfold Fx.zmp at h ⊢;split
 . exact Or.inr rfl
 . rename_i G
   rw [if_neg G] at h;split
   . rename_i J;rw [if_pos J] at h;exact absurd rfl h
   . exact Or.inl rfl
theorem I0 {aK z:Value} {a o:Nat} (L:Below (w.alloc (.cells #[af,E] t)).heap.size (w.alloc (.cells #[af,E] t)) M) (G:w.cell? (ep b 1)=some aK) (F:b<w.heap.size) (J:w.cell? (ep a o)=some z) (bO:a<w.heap.size) :
 M.cell? (ep w.heap.size 0)=some af/\M.cell? (ep w.heap.size 1)=some E/\M.cell? (ep b 1)=some aK/\M.cell? (ep a o)=some z:=by
 obtain ⟨ag,ak,_⟩:=mE ((L.block w.heap.size (by simp)).trans (eT w _));exact ⟨ag,ak,(L.cell (p:=(ep b 1)) (by show b<_;simp;omega)).trans (((ey w _).cell (p:=(ep b 1)) F).trans G),(L.cell (p:=(ep a o)) (by show a<_;simp;omega)).trans (((ey w _).cell (p:=(ep a o)) bO).trans J)⟩
theorem I1 (m:fh) (v:Value) (Y:OA) (a9:Nat) (a5:OA) (a4:Nat) (a7:OA) (c3:Nat) (ay:OA) (am:Nat) (l:List Fc) (al:OA) (bL:Nat) (w:World) (aS:hm w eV m v Y a9 a5 a4 a7 c3 ay am) (br:eE w eV al (Ln l) (qE l)) :
 ew 21 #[v,.slice al (Ln l) bL] w fun e r=>BK w.heap.size (oN m l) e r/\et w r:=by
 obtain rfl:=aS.val;have aq:=hid aS;have c2:=hid br;have bC:=br.bound;have bO:=aS.uses.bound;have ao:=hid (Bv m _ Y a9 a5 a4 a7 c3 ay am ((w.alloc (jB m.name Y (Ln m.uses) a9 a5 (Ln m.decls) a4 a7 (Ln m.procs) c3 ay (Ln m.main) am)).alloc (g5 ⟨#[]⟩ none 0 0 0 none 0 0 none 0 0)) (aS.later (gc _ _ _)));clear aS br
 obtain ⟨O,W⟩:∃ O,O=oN m l:=⟨_,rfl⟩
 rw [← W];have q:=hid W;clear W;go_enter func21,ntmps21;go_wp2_with fail;refine ao.mono ?_;rintro e eq ⟨rfl,ai⟩;have B:=hid (es (gc w _ _) ai);have b0:=ai.size;simp at b0;have c4:=hid ((ai.block w.heap.size (by simp;omega)).trans (fF (eT w _)));have ce:Hid (eq.heap[w.heap.size+1]? = some (g5 ⟨#[]⟩ none 0 0 0 none 0 0 none 0 0)):=(ai.block (w.heap.size+1) (by simp)).trans (by simpa using eT (w.alloc _) _);obtain ⟨af,E,ae,H,aj,bc⟩:=fi c4;obtain ⟨bg,b2,bi,bt,r4,rf⟩:=fi ce;have P:=lt_of_heap c4;have c8:=lt_of_heap ce;clear ai ao
 by_cases a1:j1 m=0
 case neg=>
  have z:Hid (O = .error (j1 m)):=q.trans (if_pos a1);go_wp2_with fail;refine bodyPost_ret (v:=.tuple #[.agg #[.string ⟨#[]⟩,eu,em 0,eu,eu],em (j1 m)]) (by simp [results,results21,go_sem,bg,b2,bi,bt,r4,c8]) rfl ⟨by rw [z.out];exact ⟨rfl,a1⟩,?_⟩;exact ik B (by omega) _ _ _ _ _
 have bh:Hid (O=if (Ln l)≠Ln m.uses then .error 8 else if (l.zip m.uses).all iY then mI m l else .error 1):=q.trans (if_neg (by simp [a1]));have ah:=hid a1;rw [a1];clear a1 q
 by_cases aT:Ln l=Ln m.uses
 case neg=>
  have z:Hid (O = .error 8):=bh.trans (if_pos aT)
  have cT:¬ ((Ln l:Int)=Ln m.uses):=by omega
  go_wp2_with fail;refine bodyPost_ret (v:=.tuple #[.agg #[.string ⟨#[]⟩,eu,em 0,eu,eu],em 8]) (by simp [results,results21,go_sem,bg,b2,bi,bt,r4,c8]) rfl ⟨by rw [z.out];exact ⟨rfl,by decide⟩,?_⟩;exact ik B (by omega) _ _ _ _ _
 have aZ:Hid (O=if (l.zip m.uses).all iY then mI m l else .error 1):=bh.trans (if_neg (by simp [aT]));have x:=hid aT;have cg:=(sJ (uC ah)).1
 have aw:(Ln l:Int)=(Ln m.uses:Int):=by omega
 clear bh aT;go_wp2_with fail;clear aw
 go_loopw [7,8,24] (fun _ _ i wr=>∃ j:Nat,j<=Ln l/\i=em j/\((l.zip m.uses).take j).all iY=true/\et eq wr) (fun _ _ i _=>Ln l - (intOf i).toNat)
 case atStart=>exact ⟨0,eY _,rfl,rfl,Below.refl _ _⟩
 case round=>
  obtain ⟨j,ac,rfl,aO,o⟩:=hrel;have N:=hid aO;have ad:=hid o;have bN:=o.size;have a8:=hid (es B o);have bQ:=hid ((o.block _ P).trans c4);have av:=hid ((o.block _ c8).trans ce);clear aO o af E ae H aj bc bg b2 bi bt r4 rf;obtain ⟨af,E,ae,H,aj,bc⟩:=fi bQ;obtain ⟨bg,b2,bi,bt,r4,rf⟩:=fi av;have an:=lt_of_heap bQ;have ar:=lt_of_heap av
  by_cases a0:j<Ln l
  . have aa:j<Ln m.uses:=by have:=x.out;omega
    obtain ⟨b,C,S,g,rfl,ap,aF,T,bu,hdj⟩:=(c2.later a8).fc j a0;obtain ⟨a,ou,rfl,ag,D,hzm⟩:=(aq.uses.later a8).str j aa;obtain ⟨bz,HFj⟩:=xN hdj;have az:=hdj.bound;have ab:=hid (IW x j a0);have s:=hid (IX x j a0)
    have U:(j:Int)<Ln m.uses:=by omega
    generalize l[j]=f at *;generalize m.uses[j]'aa=u at *;have y:=hid (fun M (L:et wr M)=>Fx.zm9 f S g M (bz.later L) (by omega) bu HFj);have aJ:=hid (fun M (L:Below (wr.alloc (.cells #[.string f.name,.slice S (Ln f.items) g] 30)).heap.size (wr.alloc (.cells #[.string f.name,.slice S (Ln f.items) g] 30)) M)=>(I0 L E an D ag:M.cell? (ep wr.heap.size 0)=some (.string f.name)/\M.cell? (ep wr.heap.size 1)=some (.slice S (Ln f.items) g)/\M.cell? (ep w.heap.size 1)=some (.slice (some (ep a ou)) (Ln m.uses) a9)/\M.cell? ⟨a,ou+j,none⟩=some (.string u)));have bv:=hid (aJ _ (mJ _));clear hdj bz HFj
    by_cases t:Fx.zmp f=0
    . cases G:decide (f.name=u) with
      | true=>
        have p:Hid (iY (f,u)=true):=by show iY (f,u)=true;unfold iY;simp only [t,G];rfl
        have A:Hid (((l.zip m.uses).take (j+1)).all iY=true):=ab.trans (by rw [N.out,p.out];rfl);rw [t] at y;have b6:(f.name.toList == u.toList)=true:=(BN _ _).trans G;clear ab s t;go_wp2_with fail
        go_region_held (fun M=>M.cell? (ep wr.heap.size 0)=some (.string f.name)/\M.cell? (ep wr.heap.size 1)=some (.slice S (Ln f.items) g)/\M.cell? (ep w.heap.size 1)=some (.slice (some (ep a ou)) (Ln m.uses) a9)/\M.cell? ⟨a,ou+j,none⟩=some (.string u)) (exact bv)
         (first | (go_at_call 19;refine (y _ (gX wr _)).mono ?_;rintro e eC ⟨rfl,a2⟩;have aP:=hid (es (mJ (wr.alloc (.cells #[.string f.name,.slice S (Ln f.items) g] 30))) a2);have bv:=hid (aJ _ aP);clear a2))
        have n:=hid (es (es a8 (ey wr (.cells #[.string f.name,.slice S (Ln f.items) g] 30))) aP);have bE:=aP.size;simp at bE;have aK:=(aP.block _ (by simp;omega)).trans (fF (o:=(.cells #[.string f.name,.slice S (Ln f.items) g] 30)) av);clear bg b2 bi bt r4 rf;obtain ⟨bg,b2,bi,bt,r4,rf⟩:=fi aK;have k:=lt_of_heap aK;clear aK;go_wp2_with fail;go_roundw
        case rel=>exact ⟨j+1,by omega,by go_num,A,es (es ad (ey wr _)) aP⟩
        case measure=>simp [intOf];omega
      | false=>
        have p:Hid (iY (f,u)=false):=by show iY (f,u)=false;unfold iY;simp only [G,Bool.and_false]
        rw [t] at y;have b6:(f.name.toList == u.toList)=false:=(BN _ _).trans G;clear ab t;have z:Hid (O = .error 1):=aZ.trans (if_neg (by rw [s.out p.out];decide));go_wp2_with fail
        go_region_held (fun M=>M.cell? (ep wr.heap.size 0)=some (.string f.name)/\M.cell? (ep wr.heap.size 1)=some (.slice S (Ln f.items) g)/\M.cell? (ep w.heap.size 1)=some (.slice (some (ep a ou)) (Ln m.uses) a9)/\M.cell? ⟨a,ou+j,none⟩=some (.string u)) (exact bv)
         (first | (go_at_call 19;refine (y _ (gX wr _)).mono ?_;rintro e eC ⟨rfl,a2⟩;have aP:=hid (es (mJ (wr.alloc (.cells #[.string f.name,.slice S (Ln f.items) g] 30))) a2);have bv:=hid (aJ _ aP);clear a2))
        have n:=hid (es (es a8 (ey wr (.cells #[.string f.name,.slice S (Ln f.items) g] 30))) aP);have bE:=aP.size;simp at bE;have aK:=(aP.block _ (by simp;omega)).trans (fF (o:=(.cells #[.string f.name,.slice S (Ln f.items) g] 30)) av);clear bg b2 bi bt r4 rf;obtain ⟨bg,b2,bi,bt,r4,rf⟩:=fi aK;have k:=lt_of_heap aK;clear aK;go_wp2_with fail;refine bodyPost_ret (v:=.tuple #[.agg #[.string ⟨#[]⟩,eu,em 0,eu,eu],em 1]) (by simp [results,results21,go_sem,bg,b2,bi,bt,r4,k]) rfl ⟨by rw [z.out];exact ⟨rfl,by decide⟩,?_⟩;exact ik n (by omega) _ _ _ _ _
    . have p:Hid (iY (f,u)=false):=by show iY (f,u)=false;unfold iY;simp only [beq_eq_false_iff_ne.2 t,w6]
      clear ab
      rcases IZ f t with aM | b1
      . rw [aM] at y
        clear t aM;have z:Hid (O = .error 1):=aZ.trans (if_neg (by rw [s.out p.out];decide));go_wp2_with fail;refine wp_region_held_drew (S:=(fun M=>M.cell? (ep wr.heap.size 0)=some (.string f.name)/\M.cell? (ep wr.heap.size 1)=some (.slice S (Ln f.items) g)/\M.cell? (ep w.heap.size 1)=some (.slice (some (ep a ou)) (Ln m.uses) a9)/\M.cell? ⟨a,ou+j,none⟩=some (.string u))) (by kernel_rfl) bv (fun d=>?_);refine tq 0 29 d ?_
        (try simp only [Act.put,gD,gE,gH])
        refine wpAnyH_ready (rs:=[1]) (by kernel_rfl) (by simp) ?_;refine AllReadyH.cons rfl (fun K aA=>?_) AllReadyH.nil;go_simp
        go_wp2_with (go_at_call 19;refine (y _ (gX wr _)).mono ?_;rintro e eC ⟨rfl,a2⟩)
        have aP:=hid (es (mJ (wr.alloc (.cells #[.string f.name,.slice S (Ln f.items) g] 30))) a2);clear a2;refine aA.out _ _ (aJ _ aP) (fun d=>?_);clear aA K;refine tq 2 31 d ?_
        (try simp only [Act.put,gD,gE,gH])
        refine tq 3 32 d ?_
        (try simp only [Act.put,gD,gE,gH])
        refine tu 4 33 d ?_
        (try simp only [Act.put,gD,gE,gH])
        refine tu 5 34 d ?_
        (try simp only [Act.put,gD,gE,gH])
        refine tu 6 35 d ?_
        (try simp only [Act.put,gD,gE,gH])
        refine tu 7 36 d ?_
        (try simp only [Act.put,gD,gE,gH])
        refine tu 8 37 d ?_
        (try simp only [Act.put,gD,gE,gH])
        refine tu 9 38 d ?_
        (try simp only [Act.put,gD,gE,gH])
        refine tu 10 39 d ?_
        (try simp only [Act.put,gD,gE,gH])
        refine tu 11 40 d ?_
        (try simp only [Act.put,gD,gE,gH])
        refine tq 12 41 d ?_
        (try simp only [Act.put,gD,gE,gH])
        refine wpAnyH_done (by kernel_rfl) ?_ _;have n:=hid (es (es a8 (ey wr (.cells #[.string f.name,.slice S (Ln f.items) g] 30))) aP);have bE:=aP.size;simp at bE;have aK:=(aP.block _ (by simp;omega)).trans (fF (o:=(.cells #[.string f.name,.slice S (Ln f.items) g] 30)) av);clear bg b2 bi bt r4 rf;obtain ⟨bg,b2,bi,bt,r4,rf⟩:=fi aK;have k:=lt_of_heap aK;clear aK;go_wp2_with fail;refine bodyPost_ret (v:=.tuple #[.agg #[.string ⟨#[]⟩,eu,em 0,eu,eu],em 1]) (by simp [results,results21,go_sem,bg,b2,bi,bt,r4,k]) rfl ⟨by rw [z.out];exact ⟨rfl,by decide⟩,?_⟩;exact ik n (by omega) _ _ _ _ _
      . rw [b1] at y
        clear t b1;have z:Hid (O = .error 1):=aZ.trans (if_neg (by rw [s.out p.out];decide));go_wp2_with fail;refine wp_region_held_drew (S:=(fun M=>M.cell? (ep wr.heap.size 0)=some (.string f.name)/\M.cell? (ep wr.heap.size 1)=some (.slice S (Ln f.items) g)/\M.cell? (ep w.heap.size 1)=some (.slice (some (ep a ou)) (Ln m.uses) a9)/\M.cell? ⟨a,ou+j,none⟩=some (.string u))) (by kernel_rfl) bv (fun d=>?_);refine tq 0 29 d ?_
        (try simp only [Act.put,gD,gE,gH])
        refine wpAnyH_ready (rs:=[1]) (by kernel_rfl) (by simp) ?_;refine AllReadyH.cons rfl (fun K aA=>?_) AllReadyH.nil;go_simp
        go_wp2_with (go_at_call 19;refine (y _ (gX wr _)).mono ?_;rintro e eC ⟨rfl,a2⟩)
        have aP:=hid (es (mJ (wr.alloc (.cells #[.string f.name,.slice S (Ln f.items) g] 30))) a2);clear a2;refine aA.out _ _ (aJ _ aP) (fun d=>?_);clear aA K;refine tq 2 31 d ?_
        (try simp only [Act.put,gD,gE,gH])
        refine tq 3 32 d ?_
        (try simp only [Act.put,gD,gE,gH])
        refine tu 4 33 d ?_
        (try simp only [Act.put,gD,gE,gH])
        refine tu 5 34 d ?_
        (try simp only [Act.put,gD,gE,gH])
        refine tu 6 35 d ?_
        (try simp only [Act.put,gD,gE,gH])
        refine tu 7 36 d ?_
        (try simp only [Act.put,gD,gE,gH])
        refine tu 8 37 d ?_
        (try simp only [Act.put,gD,gE,gH])
        refine tu 9 38 d ?_
        (try simp only [Act.put,gD,gE,gH])
        refine tu 10 39 d ?_
        (try simp only [Act.put,gD,gE,gH])
        refine tu 11 40 d ?_
        (try simp only [Act.put,gD,gE,gH])
        refine tq 12 41 d ?_
        (try simp only [Act.put,gD,gE,gH])
        refine wpAnyH_done (by kernel_rfl) ?_ _;have n:=hid (es (es a8 (ey wr (.cells #[.string f.name,.slice S (Ln f.items) g] 30))) aP);have bE:=aP.size;simp at bE;have aK:=(aP.block _ (by simp;omega)).trans (fF (o:=(.cells #[.string f.name,.slice S (Ln f.items) g] 30)) av);clear bg b2 bi bt r4 rf;obtain ⟨bg,b2,bi,bt,r4,rf⟩:=fi aK;have k:=lt_of_heap aK;clear aK;go_wp2_with fail;refine bodyPost_ret (v:=.tuple #[.agg #[.string ⟨#[]⟩,eu,em 0,eu,eu],em 1]) (by simp [results,results21,go_sem,bg,b2,bi,bt,r4,k]) rfl ⟨by rw [z.out];exact ⟨rfl,by decide⟩,?_⟩;exact ik n (by omega) _ _ _ _ _
  . obtain rfl:j=Ln l:=by omega
    have cw:¬ (Ln l<Ln m.uses):=by have:=x.out;omega
    have a6:Hid ((l.zip m.uses).all iY=true):=by have:=N.out;rw [kw (by rw [t8];omega)] at this;exact this
    have z:Hid (O=mI m l):=aZ.trans (if_pos a6);have aG:=hid (IV m _ Y a9 a5 a4 a7 c3 ay am l al bL wr (aq.later a8) (uC ah) (c2.later a8) (by have:=x.out;omega) (IY x a6));go_wp2_with fail;refine aG.mono ?_;rintro e eJ ⟨a3,b5⟩;have bb:=hid (es a8 b5);have bK:=b5.size;have aK:=(b5.block _ ar).trans av;clear bg b2 bi bt r4 rf;obtain ⟨bg,b2,bi,bt,r4,rf⟩:=fi aK;have V:=lt_of_heap aK;clear b5 aK aG
    cases Q:mI m l with
    | error c=>
      rw [Q] at a3;obtain ⟨rfl,aV⟩:=a3;have I:Hid (O = .error c):=z.trans Q;clear Q;go_wp2_with fail;refine bodyPost_ret (v:=.tuple #[.agg #[.string ⟨#[]⟩,eu,em 0,eu,eu],em c]) (by simp [results,results21,go_sem,bg,b2,bi,bt,r4,V]) rfl ⟨by rw [I.out];exact ⟨rfl,aV⟩,?_⟩;exact ik bb (by omega) _ _ _ _ _
    | ok R=>
      rw [Q] at a3;obtain ⟨ax,ak,bf,au,aQ,aI,rfl,he1,J,he3⟩:=a3;have I:Hid (O = .ok R):=z.trans Q
      have bD:Hid (∀ Z aK aN aY be,eQ eJ (wr.heap.size<=·) (set5 eJ (w.heap.size+1) Z aK aN aY be) (w.heap.size<=·)):=fun Z aK aN aY be=>
       ((eQ.refl eJ (wr.heap.size<=·)).set5 (b:=w.heap.size+1) (fun b _ F=>by have:wr.heap.size<=b:=F;omega) Z aK aN aY be).trans ⟨eD _,fun b _ h=>⟨by have:wr.heap.size<=b:=h;show w.heap.size<=b;omega,rfl⟩⟩
      have X:=hid he1;have bG:=hid J;have bV:=hid he3;clear Q he1 J he3;go_wp2_with fail;refine bodyPost_ret (v:=.tuple #[.agg #[.string R.name,.slice ax (Ln R.uses) ak,em R.data,.slice bf (Ln R.parts) au,.slice aQ (Ln R.main) aI],em 0]) (by simp [results,results21,go_sem,bg,b2,bi,bt,r4,V]) rfl ⟨?_,?_⟩
      . rw [I.out]
        exact ⟨ax,ak,bf,au,aQ,aI,rfl,X.moves (bD _ _ _ _ _),bG.moves (bD _ _ _ _ _),bV.moves (bD _ _ _ _ _)⟩
      . exact ik bb (by omega) _ _ _ _ _
end Go.Proofs.YtndkhgakfodldaaGreatDoor

namespace Go.Proofs.YtndkhgakfodldaaGreatDoor
open Go.RowKit
theorem xP {n:Int} (G : -1000000000000000<=n) (J:n<=1000000000000000):(Lit.int .i64 n).wf=true:=by
 simp only [Lit.wf,fs,decide_eq_true_eq];exact ⟨by show (-9223372036854775808:Int)<=n;omega,by show n<=(9223372036854775807:Int);omega⟩
end Go.Proofs.YtndkhgakfodldaaGreatDoor

namespace Go.Proofs.YtndkhgakfodldaaGreatDoor
open Go.RowKit Go.Maps Go.WideMaps
variable {M:World} {a:OA} {Y I n p:Nat} {o:eO} {t:TypeId} {u:ga} {ae:List Value}
theorem uK {ds:List D} (h:M.ownsRow Y t p (.slice a n I) n ae) (Q:fB M eV ds ae) (G:n<=Ln ds) (J:Ln ds<=17592186044416):eE M eV a n ds:=by
 refine ⟨G,J,?_⟩
 rcases h.2 with ⟨e,a3⟩ | ⟨g,f,o,e,_,af,_⟩
 . exact Or.inl a3
 . cases e
   refine Or.inr ⟨g,0,ae,rfl,trivial,lt_of_heap af,fun j u ac=>?_,Q⟩;have:=h.cells (g:=g) rfl j u ac;rw [show ((ep g 0):Addr).add j=(ep g j) from by unfold Addr.add;split<;>simp_all] at this
   rw [hv];exact this
def jt (n:Int):Prop:=-1000000000000000<=n/\n<=1000000000000000
theorem qG {n:Int} (h:jt n):fT M eV (.int n) (em n):=f8 (xP h.1 h.2)
theorem BO:∀ (l:List fM),(∀ i ∈ l,jt i.op/\jt i.a/\jt i.b)->fB M eV (lZ l) (gj l)
 | [],_=>fB.nil
 | i :: O,h=>by
   have G:=h i (gV ..);simp only [lZ,gj,lh];exact fB.append (.cons (qG G.1) (.cons (qG G.2.1) (.cons (qG G.2.2) .nil))) (BO O (fun j ac=>h j (gC _ ac)))
theorem BP:∀ (l:List gQ),(∀ i ∈ l,jt i.at_/\jt i.kind/\jt i.m)->fB M eV (oV l) (oS l)
 | [],_=>fB.nil
 | i :: O,h=>by
   have G:=h i (gV ..);simp only [oV,oS,lh];exact fB.append (.cons (qG G.1) (.cons (qG G.2.1) (.cons (qG G.2.2) .nil))) (BP O (fun j ac=>h j (gC _ ac)))
theorem BQ:∀ (l:List Int),(∀ i ∈ l,jt i)->fB M eV (gS l) (intV l)
 | [],_=>fB.nil
 | i :: O,h=>.cons (qG (h i (gV ..))) (BQ O (fun j ac=>h j (gC _ ac)))
theorem BR:∀ (l:List ByteArray),(∀ s ∈ l,s.size<=maxLen)->fB M eV (fj l) (strV l)
 | [],_=>fB.nil
 | i :: O,h=>.cons (gy (h i (gV ..))) (BR O (fun j ac=>h j (gC _ ac)))
theorem BT (l:List fM):(lZ l).length=Ln l*3:=by
 induction l with
 | nil=>rfl
 | cons q O aH=>simp only [lZ,lh,gn,iH] at aH ⊢;rw [aH];simp [fM.ds];omega
theorem BU (l:List gQ):(oV l).length=Ln l*3:=by
 induction l with
 | nil=>rfl
 | cons q O aH=>simp only [oV,lh,gn,iH] at aH ⊢;rw [aH];simp [gQ.ds];omega
theorem BV (b:Int):∀ (e:List gQ) (K:Int),K<=b->e.Pairwise (fun f g=>f.at_<g.at_)->(∀ f ∈ e,K<=f.at_/\f.at_<b)->(Ln e:Int)<=b - K
 | [],K,h,_,_=>by simp;omega
 | f :: O,K,h,az,F=>by
   rw [List.pairwise_cons] at az;have G:=F f (gV ..);have:=BV b O (f.at_+1) (by omega) az.2 (fun g af=>⟨by have:=az.1 g af;omega,(F g (gC _ af)).2⟩);rw [iH];omega
theorem I2 (h:lY u = .ok o):o=oT u/\ji u ig hU=true/\Go.Lib.containsS u.uses u.name=false/\kX (iN u)=false:=by
 unfold lY at h
 split at h
 . cases h
 . rename_i G
   split at h
   . cases h
   . rename_i J
     cases h;simp only [rp,jf] at G;exact ⟨rfl,by simpa using G.2,G.1,by simpa using J⟩
theorem I3 (h:ji u ig hU=true):(∀ i ∈ (iN u).code,jt i.op/\jt i.a/\jt i.b)/\(∀ f ∈ (iN u).fixes,jt f.at_/\jt f.kind/\jt f.m)/\(∀ q ∈ uX u.parts,jt q)/\jt ((ir u.parts).code.length:Int)/\(iN u).fixes.length<=33000:=by
 obtain ⟨ab,_,a2,Z⟩:=C5 h;have F:=yd h;have S:=yh (oU h).2.2;obtain ⟨e,ah,az,W⟩:=ab.fx
 have c:(iN u).fixes=e:=by rw [ah];rfl
 subst c;refine ⟨fun i X=>?_,fun f ag=>?_,fun q Q=>?_,by unfold jt;omega,?_⟩
 . obtain ⟨k,N,rfl⟩:=kx X
   have:=ab.ins k _ (eY _) (gb N);unfold lA at this;unfold jt;omega
 . obtain ⟨k,i,X,N,_,Q⟩:=W f ag
   have:=l1 X;unfold jt
   rcases Q with ⟨G,J,_⟩ | ⟨G,_,_,a6⟩<;>omega
 . rw [C6,po] at Q
   obtain ⟨b,aJ,e⟩:=Q;have:=Z b aJ;unfold jt;omega
 . have:=BV ((iN u).code.length:Int) (iN u).fixes 0 (by omega) az (fun f ag=>by
    obtain ⟨k,i,X,N,_,_⟩:=W f ag;have:=l1 X
    omega)
   omega
theorem I4 (h:M.ownsRow Y t p (.slice a n I) n ae):n<=I:=by
 obtain ⟨_,_,e,G,_⟩:=im h
 cases e
 exact G
theorem BW (af:lY u = .ok o) {E:OA} {T:Nat} {ae:OA} {X:Nat} {H:OA} {y3:Nat} {w:World} (d:kV w u E T ae X H y3) :
 ew 31 #[.agg #[.string u.name,.slice E (Ln u.uses) T,em u.data,.slice ae (Ln u.parts) X,.slice H (Ln u.main) y3]] w fun e r=>∃ E T H y3 aj b9 al b7,e = .returned (.tuple #[.agg #[.string o.name,.slice E (Ln o.uses) T,em o.data,.slice H (Ln o.code) y3,.slice aj (Ln o.fixes) b9,.slice al (Ln o.entries) b7,em o.main],em 0])/\jk r o E H aj al/\Ln o.uses<=T/\et w r:=
 (KD u E T ae X H y3 w d).mono fun e r ⟨h,F⟩=>by
   obtain ⟨rfl,m,a1,ag⟩:=I2 af;unfold pR at h;rw [af] at h;obtain ⟨p,f,aA,bP,az,t,b,cu,ah,G,J,S,a6⟩:=h;obtain ⟨D,b6,fX,bw,s5⟩:=I3 m;have ez:=xH (oU m).2.2;have aI:=yh (oU m).2.2;have aw:=uY (oU m).2.2;have cr:(oT u).entries.length=Ln u.parts:=qP ..;have b0:=yd m;refine ⟨p,f,aA,bP,az,t,b,cu,ah,⟨d.wn,?_,xP (by show _<=u.data;omega) (by show u.data<=_;omega),?_,?_,?_,xP bw.1 bw.2⟩,I4 G,F⟩
   . exact uK G (BR _ (lT d.uses).2) (by simp [fj]) (by show (fj u.uses).length<=_;simp [fj];omega)
   . exact uK J (BO _ D) (by rw [BT];omega) (by rw [BT];show (iN u).code.length*3<=_;omega)
   . exact uK S (BP _ b6) (by rw [BU];omega) (by rw [BU];show (iN u).fixes.length*3<=_;omega)
   . exact uK a6 (BQ _ fX) (by simp [gS]) (by rw [show (gS (oT u).entries).length=(oT u).entries.length from by simp [gS],cr];omega)
end Go.Proofs.YtndkhgakfodldaaGreatDoor

namespace Go.Proofs.YtndkhgakfodldaaGreatDoor
open Go.RowKit Go.Shelf
section
variable {P:Program} {ops:Array Oper} {o:Oper} {a:Act} {w:World} {K:Act->World->Prop} {T:Exit->Act->World->Prop} {E:Prop}
theorem run_callN (f:FuncId) (ae:Array Operand) (b:Array TypeId) (aa:o.op = .call { callee:=.value (.func f),args:=ae,argTypes:=b })
 (g:Enters P f) (p:Array Value) (Q:ae.map a.eval=p):(execOp a.eval o).run P w = .ok (.enter f p) w:=by
 have h:=g p w;have ag:a.eval (.func f) = .func (.func f) #[] #[]:=rfl;simp [execOp,aa,resolve,invoke,Q,ag,h,Deferred.ofValue]
end
theorem eE.lower {w:World} {a:OA} {n:Nat} {ds:List D} (h:eE w eV a n ds):eE w (·<w.heap.size) a n ds:=h.moves ⟨eD _,fun b F _=>⟨F,rfl⟩⟩
end Go.Proofs.YtndkhgakfodldaaGreatDoor
