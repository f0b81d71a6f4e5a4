import Derived.Deep.DeepCutAuto
import Derived.Test.YtndkhgakfodldaaGreatDoorGc
set_option maxRecDepth 100000
set_option maxHeartbeats 8000000
set_option linter.unusedSimpArgs false
set_option linter.unusedVariables false
open Go.Proofs.Tryz
namespace Go.Proofs.YtndkhgakfodldaaGreatDoor
open Go.RowKit Go.Maps Go.WideMaps
theorem S7{P:Prop}(h:P:=by
 go_wp2_with fail;go_meet;exact ⟨_,ad,aA,rfl,b3,aS,bA,aR⟩):P:=h
variable {A:Nat->Prop} {M w:World} {b:Nat} {l:List Fc} {m:ec} {t:TypeId} {af a4 am a5 ax:Value}
theorem LD {ops:Array Oper} {o:Oper} {a:Act} {K:Act->World->Prop} {Y:Exit->Act->World->Prop} {E:Prop} (l:o.guard=none) (s x:Operand)
 (ap:o.op = .call { callee:=.builtin .append,args:=#[s,x],argTypes:=#[22,22] }) (us:List ByteArray) (b:OA) (c:Nat) (a8:a.eval s=dt) (S:a.eval x = .slice b us.length c) (aE:Fx.zfd w b us) (b1:us.length<=10000)
 (h:∀ aa G,G.ownsRow w.heap.size 9 1 aa us.length (strV us)->dm w G->K (a.put o.dst aa) G) :
 if Region.wanted o (yielded ops a.tmps)=true then Oper.wp prog o a w K Y else E:=by
 have aj:Region.wanted o (yielded ops a.tmps)=true:=OR
 rw [if_pos aj];obtain ⟨aa,G,Q,J,U⟩:=vy w.heap.size o.type (dt) 0 [] (jU _ _ _ _) us b c aE N7 (dA _);refine Lib.wp_append_run w s x _ _ ap _ _ a8 S aa G Q (h aa G Pg ?_);exact (Below.refl w.heap.size w).grown U (dA _) (fun k N=>by simp [Value.ownBlock] at N)
theorem Tryz.infoPart:(prog.info? 106).map (fun i=>(i.zero,i.size,i.bytes))=some (some (.agg #[di 0,di 0,dt]),3,40):=by kernel_rfl
theorem LE {t:e5} {a:OA} {q:Nat} (h:ee w A a t.body.length (eJ t.body)):eI w A t.ds [di t.params,di t.locals,.slice a t.body.length q]:=.cons kl (.cons kl (.cons h.val .nil))
theorem LF (l:List e5) (x:e5):ih (l++[x])=ih l++x.ds:=by simp [ih]
theorem vE (h:w.heap[b]? = some (.cells #[af,a4,am,a5,ax] t (0,0))):w.cell? (dj b 0)=some af/\w.cell? (dj b 1)=some a4/\w.cell? (dj b 2)=some am/\w.cell? (dj b 3)=some a5/\w.cell? (dj b 4)=some ax/\(∀ i,w.frozen? (dj b i)=false)/\b<w.heap.size:=by
 exact SO
theorem yu (I:b<M.heap.size) (h:M.cell? (dj b 0)=some af/\M.cell? (dj b 1)=some a4) (o:Obj):(M.alloc o).cell? (dj b 0)=some af/\(M.alloc o).cell? (dj b 1)=some a4:=
 ⟨((dn M o).cell (p:=(dj b 0)) I).trans h.1,((dn M o).cell (p:=(dj b 1)) I).trans h.2⟩
theorem LG (I:b<M.heap.size) (h:M.cell? (dj b 0)=some af/\M.cell? (dj b 1)=some a4) (o:Obj):(M.alloc o).drew.cell? (dj b 0)=some af/\(M.alloc o).drew.cell? (dj b 1)=some a4:=yu I h o
theorem LH {c:Nat} (Z:b≠c) (h:M.cell? (dj b 0)=some af/\M.cell? (dj b 1)=some a4) (u0 u1 u2 u3 u4:Value) :
 (((((M.setCell (dj c 0) u0).setCell (dj c 1) u1).setCell (dj c 2) u2).setCell (dj c 3) u3).setCell (dj c 4) u4).cell? (dj b 0)=some af/\(((((M.setCell (dj c 0) u0).setCell (dj c 1) u1).setCell (dj c 2) u2).setCell (dj c 3) u3).setCell (dj c 4) u4).cell? (dj b 1)=some a4:=by
 have e:(((((M.setCell (dj c 0) u0).setCell (dj c 1) u1).setCell (dj c 2) u2).setCell (dj c 3) u3).setCell (dj c 4) u4).heap[b]? = M.heap[b]?:=(eh Z _).trans ((eh Z _).trans ((eh Z _).trans ((eh Z _).trans (eh Z _))));exact ⟨(lY (w:=M) (a:=(dj b 0)) e).trans h.1,(lY (w:=M) (a:=(dj b 1)) e).trans h.2⟩
theorem fA (w:World):dm w w.drew:=(Below.refl _ _).drew
theorem gK (w:World) (o:Obj):dm w (w.alloc o).drew:=((Below.refl _ w).alloc (dA _) o).drew
theorem LI {s:World} (I:Below (w.alloc (.cells #[af,a4,am,a5,ax] t)).drew.heap.size (w.alloc (.cells #[af,a4,am,a5,ax] t)).drew s) :
 s.cell? (dj w.heap.size 0)=some af/\s.cell? (dj w.heap.size 1)=some a4/\s.cell? (dj w.heap.size 2)=some am/\s.cell? (dj w.heap.size 3)=some a5/\s.cell? (dj w.heap.size 4)=some ax/\(∀ i,s.frozen? (dj w.heap.size i)=false)/\w.heap.size<s.heap.size:=by
 have h:s.heap[w.heap.size]? = some (.cells #[af,a4,am,a5,ax] t):=(I.block w.heap.size (by show w.heap.size<(w.alloc _).heap.size;simp)).trans (dX w _);exact SO
theorem De:∀ (l:List ByteArray),(∀ o ∈ l,o.size<=maxLen)->eI w A (eH l) (strV l)
 | [],_=>.nil
 | o :: r,h=>.cons (qG (h o Ob)) (De r fun x S=>h x (by simp [S]))
theorem LJ {B:Nat} {v:Value} {l:List ByteArray} (h:w.ownsRow B 9 1 v l.length (strV l)) (a8:∀ o ∈ l,o.size<=maxLen):∀ a q,v = .slice a l.length q->ee w (B<=·) a l.length (eH l):=by
 rintro a q rfl;exact ee.of_own h (fun _ h=>h) (De l a8)
theorem LK (m:ec) (v:Value) (E:OA) (ah:Nat) (a0:OA) (ae:Nat) (a6:OA) (c3:Nat) (c:OA) (K:Nat) (l:List Fc) (al:OA) (bt:Nat) (w:World) (a7:gS w dQ m v E ah a0 ae a6 c3 c K) (ar:m.err=0) (b7:dx w dQ al l.length (qN l)) (bf:l.length<=3) (aN:∀ f ∈ l,f.items.length<=16) :
 dw 64 #[v,.slice al l.length bt] w fun e G=>Dc w.heap.size (mw m l) e G/\dm w G:=by
 obtain rfl:=a7.val;have L:=hid a7;have bn:=yc ar;have cv:=hid (th ar);have cj:=hid b7;have cq:=hid aN;have ao:=hid (ye m _ E ah a0 ae a6 c3 c K ((w.alloc (jl m.name E m.uses.length ah a0 m.decls.length ae a6 m.procs.length c3 c m.main.length K)).alloc (fF ⟨#[]⟩ none 0 0 0 none 0 0 none 0 0)) (a7.later (e6 _ _ _)) bn)
 have cH:Hid ((iF m).length<=16):=by have F:=bn.decls;have J:=bn.procs;show (iF m).length<=16;rw [ya];omega
 have cP:=bn.decls;have cE:=bn.procs;clear a7 b7 aN ar bn;go_enter func64,ntmps64;go_wp2_with fail;refine ao.mono ?_;rintro e dk ⟨⟨bD,p,rfl,hit⟩,aq⟩;have B:=hid (dp (e6 w _ _) aq);have ba:=aq.size;simp at ba;have bm:=hid ((aq.block w.heap.size Of).trans (eR (dX w _)));have bw:Hid (dk.heap[w.heap.size+1]? = some (fF ⟨#[]⟩ none 0 0 0 none 0 0 none 0 0)):=(aq.block (w.heap.size+1) Ob).trans PY;obtain ⟨y,aD⟩:=yd hit;have ci:=hid y;have ck:=hid aD;have c8:=@run_makeMap prog;have cR:=hid ((iH.made dk).later (dn _ (.cells #[.map (some dk.heap.size)] 189)));have d7:=hid (Dd y (R:=dk.heap.size) (dA _));have aG:=hid (C4 (fun _ _=>none) dk.heap.size 0 ⟨#[]⟩ 0 (iF m) bD p ((dk.alloc (.map #[] 0)).alloc (.cells #[.map (some dk.heap.size)] 189)) cR (dY _) (y.later (e6 _ _ _)) aD (by have:=cH.out;omega) N7 d7)
 clear aq hit y aD ao;go_wp2_with fail;refine aG.mono ?_;rintro e w2 ⟨rfl,hkm,ag⟩
 have cc:Hid (iH w2 dk.heap.size (iF m).length (qO m)):=by have:=hkm;rw [fY] at this;exact this
 have aP:=hid ag;clear hkm ag aG c8 cR;go_wp2_with fail
 go_loopw [9,10,30] (fun _ _ i wr=>∃ (j n:Nat),j<=l.length/\i=di j/\n<=16+16*j/\iH wr dk.heap.size n (oW (qO m) (l.take j))/\dK dk.heap.size ((dk.alloc (.map #[] 0)).alloc (.cells #[.map (some dk.heap.size)] 189)) wr) (fun _ _ i _=>l.length - (intOf i).toNat)
 case atStart=>exact ⟨0,_,dY _,rfl,by have:=cH.out;omega,cc,aP⟩
 case round =>
  clear cc aP;obtain ⟨j,n,a2,rfl,Z,hkm,ag⟩:=hrel;have cc:=hid hkm;have aP:=hid ag;have bj:=ag.size;simp at bj;have d:wr.heap[dk.heap.size+1]? = some (.cells #[.map (some dk.heap.size)] 189):=(ag.block _ Ob N7).trans (by simpa using dX (dk.alloc (.map #[] 0)) (.cells #[.map (some dk.heap.size)] 189));have cZ:=hid d
  have g:wr.cell? ⟨dk.heap.size+1,0,none⟩=some (.map (some dk.heap.size)):=by rw [eZ d];rfl
  have b2:=lt_of_heap d;have W:Hid (dm w wr):=dK.below (dp B (e6 _ _ _)) aP N7 Of;clear hkm ag d
  by_cases ac:j<l.length
  . obtain ⟨b,C,P,o,rfl,bb,af,a4,bF,cb⟩:=(cj.later W).fc j ac
    obtain ⟨aL,c0,aj',cj',aa,c9,_,x1',_,hdj0⟩:=cj.fc j ac
    have cW:aj'=P:=by
     have bN:=eX aa
     injection bN with aJ aI
     subst aJ aI;have:=(W.cell (p:=⟨b,C+j*2+1,none⟩) c9).trans x1';rw [this] at a4;have:=eX a4;injection this
    subst cW;obtain ⟨b8,HFj⟩:=yt cb;have cL:=Dd (yt hdj0).1 (R:=dk.heap.size) N7;have db:=cq l[j] (eb _)
    have ak:Hid (lM (oW (qO m) (l.take j)) l[j].name ((j:Int)+1) l[j].items=oW (qO m) (l.take (j+1))):=by
     show _=oW (qO m) (l.take (j+1));rw [gn ac,Lw,jE,uW N7]
    have c7:IntKind.i64.wrap ((j:Int)+1)=(j:Int)+1:=Oj
    clear aa c9 x1' cb hdj0;generalize l[j]=f at *;have aZ:=hid (C4 (oW (qO m) (l.take j)) dk.heap.size n f.name ((j:Int)+1) f.items aj' o (wr.alloc (.cells #[.string f.name,.slice aj' f.items.length o] 30)) (cc.later (dn _ _)) bF (b8.later (dn _ _)) HFj N7 N7 cL);clear bF b8 HFj cL;go_wp2_with fail;refine aZ.mono ?_;rintro e dC ⟨rfl,hkm3,hke3⟩;rw [ak.out] at hkm3;have d1:=hid hkm3;have cd:=hid ((aP.alloc (.cells #[.string f.name,.slice aj' f.items.length o] 30)).trans hke3);clear hkm3 hke3 aZ;go_wp2_with fail;go_roundw
    case rel=>exact ⟨j+1,n+f.items.length,N7,Ou,N7,d1,cd⟩
    case measure=>simp [intOf];omega
  . obtain rfl:j=l.length:=by omega
    have d8:Hid (iW wr (.map (some dk.heap.size)) (kr m l)):=by have:=cc.known;rw [gu] at this;exact this
    have cl:Hid (wr.heap[w.heap.size]? = some (jl m.name E m.uses.length ah a0 m.decls.length ae a6 m.procs.length c3 c m.main.length K)):=(aP.block _ Of N7).trans (eR (eR bm));have cy:Hid (wr.heap[w.heap.size+1]? = some (fF ⟨#[]⟩ none 0 0 0 none 0 0 none 0 0)):=(aP.block _ Of N7).trans (eR (eR bw));have bi:=hid (fun M (ai:dm wr M)=>((mm L.uses).1.later (dp W ai)));obtain ⟨af,a4,am,a5,ax,a1⟩:=ep cl;have bK:=lt_of_heap cl;have cp:=cv.1;have cF:=hid (mm L.uses).2;have cY:=hid (fun M (ai:dm wr M)=>vE ((ai.block _ bK).trans cl));clear cc aP g;go_wp2_with fail
    obtain ⟨a,hwL⟩:∃ x,x=wr:=⟨_,rfl⟩
    subst hwL
    go_cut [11] (fun v wc=>∃ (a9:Nat) (ad:OA) (aA:Nat),v=dF a9 0/\a.heap.size<=a9/\Hid (dm a wc)/\Hid (wc.heap[a9]? = some (fF m.name ad m.uses.length aA (jJ m) none 0 0 none 0 0))/\Hid (ee wc (fun b=>a.heap.size<=b/\b≠a9) ad m.uses.length (eH m.uses)))
    case first=>
     have d0:w.heap.size≠a.heap.size:=N7
     have cQ:Hid (a.cell? (dj w.heap.size 0)=some (.string m.name)/\a.cell? (dj w.heap.size 1)=some (.slice E m.uses.length ah)):=⟨af,a4⟩
     have be:Hid (a.drew.cell? (dj w.heap.size 0)=some (.string m.name)/\a.drew.cell? (dj w.heap.size 1)=some (.slice E m.uses.length ah)):=⟨af,a4⟩
     go_region_held_law (fun M=>M.cell? (dj w.heap.size 0)=some (.string m.name)/\M.cell? (dj w.heap.size 1)=some (.slice E m.uses.length ah)) (first | with_reducible exact be.out | with_reducible exact yu c4 be.out _ | with_reducible exact LG bK cQ.out _ | with_reducible exact yu bK cQ.out _ | with_reducible exact LH d0 be.out _ _ _ _ _)
      (first | (refine LD rfl _ _ rfl m.uses E ah rfl rfl (bi _ (by first | exact fA a | exact gK a _)) N7 ?_;intro vu s hou aH;have cC:=hid (LJ hou cF);obtain ⟨ad,aA,rfl,_⟩:=vz hou;clear hou;(first | (refine And.elim ?_ (LI aH);intro bN r;obtain ⟨aJ,aI,bq,bo,ef,aY⟩:=r;refine And.elim ?_ (cY s (dp (gK a _) aH));intro bk fr;obtain ⟨bz,bO,c1,c5,ff,c4⟩:=fr;have cm:=hid (dp (gK a _) aH);have be:=hid (And.intro bk bz)) | (refine And.elim ?_ (cY s (dp (fA a) aH));intro bk fr;obtain ⟨bz,bO,c1,c5,ff,c4⟩:=fr;have cm:=hid (dp (fA a) aH);have be:=hid (And.intro bk bz)))))
     . have aS:Hid (dm a (s.alloc (fF m.name ad m.uses.length aA (jJ m) none 0 0 none 0 0))):=dp cm (dn _ _)
       have bA:Hid ((s.alloc (fF m.name ad m.uses.length aA (jJ m) none 0 0 none 0 0)).heap[s.heap.size]? = some (fF m.name ad m.uses.length aA (jJ m) none 0 0 none 0 0)):=dX _ _;have aR:Hid (ee (s.alloc (fF m.name ad m.uses.length aA (jJ m) none 0 0 none 0 0)) (fun b=>a.heap.size<=b/\b≠s.heap.size) ad m.uses.length (eH m.uses)):=(cC ad aA rfl).moves ⟨Ob,fun b I h=>⟨⟨h,N7⟩,(dn _ _).block b I⟩⟩;have b3:a.heap.size<=s.heap.size:=cm.size;exact S7
     . have aS:Hid (dm a (((((s.setCell (dj a.heap.size 0) (.string m.name)).setCell (dj a.heap.size 1) (.slice ad m.uses.length aA)).setCell (dj a.heap.size 2) (di (jJ m))).setCell (dj a.heap.size 3) (dt)).setCell (dj a.heap.size 4) (dt))):=je cm (dA _) _ _ _ _ _
       have bA:Hid ((((((s.setCell (dj a.heap.size 0) (.string m.name)).setCell (dj a.heap.size 1) (.slice ad m.uses.length aA)).setCell (dj a.heap.size 2) (di (jJ m))).setCell (dj a.heap.size 3) (dt)).setCell (dj a.heap.size 4) (dt)).heap[a.heap.size]? = some (fF m.name ad m.uses.length aA (jJ m) none 0 0 none 0 0)):=heap_set (heap_set (heap_set (heap_set (heap_set ((aH.block a.heap.size (by show a.heap.size<(a.alloc _).heap.size;simp)).trans (dX a _)) _) _) _) _) _;have aR:Hid (ee (((((s.setCell (dj a.heap.size 0) (.string m.name)).setCell (dj a.heap.size 1) (.slice ad m.uses.length aA)).setCell (dj a.heap.size 2) (di (jJ m))).setCell (dj a.heap.size 3) (dt)).setCell (dj a.heap.size 4) (dt)) (fun b=>a.heap.size<=b/\b≠a.heap.size) ad m.uses.length (eH m.uses)):=((cC ad aA rfl).moves ⟨dA _,fun b I h=>⟨(⟨by have:(a.alloc _).heap.size<=b:=h;simp at this;omega,by have:(a.alloc _).heap.size<=b:=h;simp at this;omega⟩:a.heap.size<=b/\b≠a.heap.size),rfl⟩⟩:ee s (fun b=>a.heap.size<=b/\b≠a.heap.size) ad m.uses.length (eH m.uses)).moves ((dU.refl s (fun b=>a.heap.size<=b/\b≠a.heap.size)).set5 (by intro k _ N;exact N.2) _ _ _ _ _)
       have b3:a.heap.size<=a.heap.size:=dA _;exact S7
    case rest=>
     obtain ⟨a9,ad,aA,rfl,b3,aS,bA,aR⟩:=hcut;have df:=lt_of_heap bA;have cu:=hid ((aS.block _ bK).trans cl);have cA:=hid ((aS.block _ (lt_of_heap cy)).trans cy);have O:=hid ((aS.block _ b2).trans cZ);have bg:=lt_of_heap cy;clear af a4 am a5 ax a1;generalize wc=W3 at *;obtain ⟨af,a4,am,a5,ax,a1⟩:=ep cu;have d4:=lt_of_heap cu;have da:=lt_of_heap cA;have d6:=lt_of_heap O;have bX:=aS.size;go_wp2_with fail;clear af a4 am a5 ax a1
     go_loopw [13,14,15,54] (fun _ _ _ i cw=>∃ (j:Nat) (H:List e5) (cf:Value),j<=m.procs.length/\i=di j/\H.length=j/\iI (kr m l) (m.procs.take j) = .ok H/\cw.heap[a9]? = some (.cells #[.string m.name,.slice ad m.uses.length aA,di (jJ m),cf,dt] 42)/\Row W3.heap.size 106 3 cw cf H.length (ih H)/\dK a9 W3 cw) (fun _ _ _ i _=>m.procs.length - (intOf i).toNat)
     case atStart=>exact ⟨0,[],dt,dY _,rfl,rfl,rfl,bA,Row.nil _ _ _ _,dK.refl _ _⟩
     case round=>
      clear bA;obtain ⟨j,H,cf,a2,rfl,hacc,hpm,c6,b5,ag⟩:=hrel;have cs:=hid hpm;have aQ:=hid c6;have cg:=hid b5;have cV:=hid ag;have de:=ag.size;have cX:=lt_of_heap c6;have ap:=hid ((ag.block _ d4 N7).trans cu);have bW:=hid ((ag.block _ da N7).trans cA);have cU:=hid ((ag.block _ d6 N7).trans O);have cO:Hid (dm a wr):=dK.below aS ag b3 N7;have bJ:=hid (dp W cO);have cG:=hid (d8.later cO);obtain ⟨af,a4,am,a5,ax,a1⟩:=ep ap
      have q:wr.cell? ⟨dk.heap.size+1,0,none⟩=some (.map (some dk.heap.size)):=by rw [eZ cU.out];rfl
      have dc:=lt_of_heap ap;have cz:=lt_of_heap bW;have dg:=lt_of_heap cU;clear hpm c6 b5 ag
      by_cases ac:j<m.procs.length
      . obtain ⟨b,C,az,aT,aK,aU,aW,bh,rfl,S⟩:=(L.procs.later bJ).pr j ac
        obtain ⟨bb,bU,bd,bs,bI,bM,bT,bR,cn,bF⟩:=S;obtain ⟨cM,b6,c2⟩:=cv.2.2.2.1 m.procs[j] (eb _);have ca:=hid (fun an (ar:mW (kr m l) m.procs[j] = .error an)=>LA (Ly ac cs ar));have bC:=hid (fun a3 (ar:mW (kr m l) m.procs[j] = .ok a3)=>Lz ac cs ar);generalize m.procs[j]=D at *;have aV:=hid (Lt (kr m l) dk.heap.size D az aT aK aU aW bh (wr.alloc (mI D.name D.pub az D.params.length aT aK D.locals.length aU aW D.body.length bh)) (cG.later (dn _ _)) (bT.later (dn _ _)) (bR.later (dn _ _)) (cn.later (dn _ _)) cM b6 c2);clear bT bR cn cM b6 c2 bF af a4 am a5 ax a1;go_wp2_with fail;refine aV.mono ?_;rintro e dD ⟨Y,bc⟩;have X:=hid (dp (dn wr _) bc);have bv:=bc.size;simp at bv;clear bc aV q bU bd bs bI bM
        cases Q:mW (kr m l) D with
        | error an=>
          rw [Q] at Y;obtain ⟨ch,py,b0,pk,aE,rfl,aX⟩:=Y;have z:=hid (ca an Q);have aF:=(X.block _ cz).trans bW;have bZ:=lt_of_heap aF;obtain ⟨bG,bp,bx,bQ,r4,rf⟩:=ep aF;clear Q aF;go_wp2_with fail;refine bodyPost_ret (v:=.tuple #[.agg #[.string ⟨#[]⟩,dt,di 0,dt,dt],di an]) (by simp [results,results64,go_sem,bG,bp,bx,bQ,r4,bZ]) rfl ⟨by rw [z.out];exact ⟨rfl,aX⟩,?_⟩;exact (je (dp bJ X) N7 _ _ _ _ _).alloc Of _
        | ok t=>
          rw [Q] at Y;obtain ⟨b0,aE,rfl,hea⟩:=Y;have z:=hid (bC t Q);have bY:=hid ((X.block _ cX).trans aQ);have cT:Hid (Row W3.heap.size 106 3 (dD.alloc (jA t.params t.locals b0 t.body.length aE)) cf H.length (ih H)):=(cg.later X).alloc _;have cB:Hid (eI (dD.alloc (jA t.params t.locals b0 t.body.length aE)) (wr.heap.size+1<=·) t.ds [di t.params,di t.locals,.slice b0 t.body.length aE]):=LE (hea.moves (((dU.refl dD _).alloc _).trans ⟨dA _,fun b _ h=>⟨by simp at h;exact h,rfl⟩⟩));have ce:=hid (fun k N=>(cg.lt k N).2);obtain ⟨cr,bE,ab,V,au,of⟩:=ep bY;have d2:=lt_of_heap bY;have cN:=hid (((cV.later X)).alloc (jA t.params t.locals b0 t.body.length aE));clear Q hea
          go_wp2_with (at_builtin;refine nx rfl (.tmp 69) (.tmp 71) 39 rfl W3.heap.size 106 _ 3 40 Tryz.underlying39 Tryz.infoPart rfl N9 (dD.alloc (jA t.params t.locals b0 t.body.length aE)) cf H.length (ih H) t.ds rfl cT #[di t.params,di t.locals,.slice b0 t.body.length aE] _ Ob rfl rfl (wr.heap.size+1<=·) cB ?_ N7 N9 Of ?_)
          . exact Sb
          . intro bL av dJ bP bu bV
            have cJ:=hid (cN.belowOf bu);have ct:=hid ((bu.block _ N7).trans (eR bY));have T:=hid (bP.set (p:=(dj a9 3)) (by show a9<W3.heap.size;omega) (.slice (some (dj bL 0)) (j+1) av));have d5:Hid ((dJ.setCell (dj a9 3) (.slice (some (dj bL 0)) (j+1) av)).heap[a9]? = some (fF m.name ad m.uses.length aA (jJ m) (some (dj bL 0)) (j+1) av none 0 0)):=heap_set ct _;have d9:=hid (cJ.own 3 (.slice (some (dj bL 0)) (j+1) av));obtain ⟨U,ay,b1,eU,bH,sf⟩:=ep ct;have dd:=lt_of_heap ct;clear bP bu cT cB cr bE ab V au of cJ cN;go_wp2_with fail;go_roundw
            case rel=>exact ⟨j+1,H++[t],_,N7,Ou,Qn,z,d5,by rw [LF,eM,hacc];exact T,d9⟩
            case measure=>simp [intOf];omega
      . obtain rfl:j=m.procs.length:=by omega
        have cD:Hid (iI (kr m l) m.procs = .ok H):=by have:=cs.out;rw [gu] at this;exact this
        have b9:=hid (vq 6 m.main cv.2.2.2.2 (kr m l) (fun _=>none) (.map (some dk.heap.size)) (.map none) dQ c K wr cG (Le wr) (L.main.later bJ));go_wp2_with fail;refine b9.mono ?_;rintro e dD ⟨Y,bc⟩;have X:=hid bc;have bv:=bc.size;have aF:=(bc.block _ cz).trans bW;have bZ:=lt_of_heap aF;obtain ⟨bG,bp,bx,bQ,r4,rf⟩:=ep aF;have bY:=hid ((bc.block _ cX).trans aQ);clear bc b9 aF q af a4 am a5 ax a1
        cases Q:fR (kr m l) (fun _=>none) m.main with
        | error an=>
          rw [Q] at Y;obtain ⟨rfl,aX⟩:=Y;have z:=hid (LB cD Q);clear Q;go_wp2_with fail;refine bodyPost_ret (v:=.tuple #[.agg #[.string ⟨#[]⟩,dt,di 0,dt,dt],di an]) (by simp [results,results64,go_sem,bG,bp,bx,bQ,r4,bZ]) rfl ⟨by rw [z.out];exact ⟨rfl,aX⟩,?_⟩;exact je (dp bJ X) N7 _ _ _ _ _
        | ok fQ=>
          rw [Q] at Y;obtain ⟨b4,aj,rfl,hea⟩:=Y;have z:=hid (LC cD Q);obtain ⟨cx,R,rfl,hep⟩:=cg.slice;obtain ⟨cr,bE,ab,V,au,of⟩:=ep bY;have d2:=lt_of_heap bY
          have dh:a9≠w.heap.size+1:=N7
          have bB:Hid (∀ u aw aF aM bl a8,∀ A:Nat->Prop,(∀ b,A b->w.heap.size+2<=b/\b≠a9)->dU dD A (set5 (dD.setCell (dj a9 4) u) (w.heap.size+1) aw aF aM bl a8) (w.heap.size<=·)):=fun u aw aF aM bl a8 A aO=>
           (((dU.refl dD A).set (p:=(dj a9 4)) (fun b _ I=>(aO b I).2) u).set5 (b:=w.heap.size+1) (fun b _ I=>by have:=(aO b I).1;omega) aw aF aM bl a8).trans ⟨dA _,fun b _ h=>⟨by have:=(aO b h).1;show w.heap.size<=b;omega,rfl⟩⟩
          have co:Hid (ee dD (fun b=>a.heap.size<=b/\b≠a9) ad m.uses.length (eH m.uses)):=(aR.moves ((dU.refl W3 _).keeps cV (fun b _ h=>h.2))).later X;have br:Hid (ee dD (W3.heap.size<=·) cx H.length (ih H)):=hep.later X;have d3:Hid (ee dD (wr.heap.size<=·) b4 fQ.length (eJ fQ)):=hea;have cK:=W.size;clear Q hea hep cg;go_wp2_with fail;refine bodyPost_ret (v:=.tuple #[.agg #[.string m.name,.slice ad m.uses.length aA,di (jJ m),.slice cx H.length R,.slice b4 fQ.length aj],di 0]) (by simp [results,results64,go_sem,bG,bp,bx,bQ,r4,bZ,hacc]) rfl ⟨?_,?_⟩
          . rw [z.out]
            exact ⟨ad,aA,cx,R,b4,aj,rfl,co.moves (bB _ _ _ _ _ _ _ (fun b h=>⟨by have:=h.1;omega,h.2⟩)),br.moves (bB _ _ _ _ _ _ _ (fun b h=>by have:W3.heap.size<=b:=h;exact ⟨N7,N7⟩)),d3.moves (bB _ _ _ _ _ _ _ (fun b h=>by have:wr.heap.size<=b:=h;exact ⟨N7,N7⟩))⟩
          . exact je ((dp bJ X).setCell (p:=(dj a9 4)) (by show w.heap.size<=a9;omega) _) N7 _ _ _ _ _
def iJ (p:Fc × ByteArray):Bool:=Fx.zq9 p.1 == 0&&decide (p.1.name=p.2)
def nQ (m:ec) (l:List Fc):Except Int dN:=
 if iY m≠0 then .error (iY m) else if l.length≠m.uses.length then .error 8 else if (l.zip m.uses).all iJ then mw m l else .error 1
theorem LL (X:l.length=m.uses.length) (j:Nat) (h:j<l.length):((l.zip m.uses).take (j+1)).all iJ=(((l.zip m.uses).take j).all iJ&&iJ (l[j],m.uses[j]' N7)):=by
 have b2:j<(l.zip m.uses).length:=by rw [uX];omega
 rw [gn b2,k8,xq];simp
theorem LM (X:l.length=m.uses.length) (j:Nat) (h:j<l.length) (Y:iJ (l[j],m.uses[j]' N7)=false):(l.zip m.uses).all iJ=false:=by
 have b2:j<(l.zip m.uses).length:=by rw [uX];omega
 rw [sY];exact ⟨(l.zip m.uses)[j],eb _,by rw [xq];simp [Y]⟩
theorem LN (X:l.length=m.uses.length) (h:(l.zip m.uses).all iJ=true):∀ f ∈ l,f.items.length<=16:=by
 intro f Y;obtain ⟨j,a2,rfl⟩:=kI Y
 have b2:j<(l.zip m.uses).length:=by rw [uX];omega
 have:=e1.1 h _ (eb b2);rw [xq] at this;unfold iJ at this;simp only [dO,beq_iff_eq] at this;have W:=this.1;unfold Fx.zq9 at W
 by_cases aN:16<l[j].items.length
 . rw [if_pos aN] at W;cases W
 . omega
section
variable {P:Program} {ops:Array Oper} {Y:Exit->Act->World->Prop} {k:Region.Mode} {S:World->Prop} {bE:Op} {ab:TypeId} {V:String} {au:Array Edge} {i:Option (Nat × Bool)} {v:Value} {d:Nat} {g:Array Bool} {a:Act} {w:World}
end
theorem Df (a b:ByteArray):(a.toList == b.toList)=decide (a=b):=by
 exact R2
theorem LO {aF z:Value} {d o:Nat} (ai:Below (w.alloc (.cells #[af,a4] t)).heap.size (w.alloc (.cells #[af,a4] t)) M) (F:w.cell? (dj b 1)=some aF) (I:b<w.heap.size) (J:w.cell? (dj d o)=some z) (aH:d<w.heap.size) :
 M.cell? (dj w.heap.size 0)=some af/\M.cell? (dj w.heap.size 1)=some a4/\M.cell? (dj b 1)=some aF/\M.cell? (dj d o)=some z:=by
 obtain ⟨g,a9,_⟩:=ml ((ai.block w.heap.size Ob).trans (dX w _));exact ⟨g,a9,(ai.cell (p:=(dj b 1)) (by show b<_;simp;omega)).trans (((dn w _).cell (p:=(dj b 1)) I).trans F),(ai.cell (p:=(dj d o)) (by show d<_;simp;omega)).trans (((dn w _).cell (p:=(dj d o)) aH).trans J)⟩
end Go.Proofs.YtndkhgakfodldaaGreatDoor

namespace Go.Proofs.YtndkhgakfodldaaGreatDoor
open Go.RowKit
theorem LP (s:ByteArray) (a:Int):∀ c:List ByteArray,hr c s=some a->0<=a/\a<c.length:=by
 apply Fx.zbs
 . intro h;cases h
 . intro l x ay h
   rw [tt] at h;unfold lN at h;rw [eM,oA]
   by_cases e:s=x
   . rw [if_pos e] at h
     have:=eX h;omega
   . rw [if_neg e] at h
     have:=ay h;omega
theorem qP {n:Int} (F : -1000000000000000<=n) (J:n<=1000000000000000):(Lit.int .i64 n).wf=true:=by
 simp only [Lit.wf,dO,decide_eq_true_eq];exact ⟨by show (-9223372036854775808:Int)<=n;omega,by show n<=(9223372036854775807:Int);omega⟩
end Go.Proofs.YtndkhgakfodldaaGreatDoor

namespace Go.Proofs.YtndkhgakfodldaaGreatDoor
open Go.RowKit Go.Maps Go.WideMaps
variable {M w:World} {a a4 am a5:OA} {y q n sz ad f y3:Nat} {o:dP} {t:TypeId} {u:dN} {ao:List Value}
theorem pQ {ds:List D} (h:M.ownsRow y t sz (.slice a n q) n ao) (S:eu M dQ ds ao) (F:n<=ds.length) (J:ds.length<=17592186044416):dx M dQ a n ds:=by
 refine ⟨F,J,?_⟩
 rcases h.2 with ⟨e,ab⟩ | ⟨al,f,o,e,_,ak,_⟩
 . exact Or.inl ab
 . cases e
   refine Or.inr ⟨al,0,ao,rfl,trivial,lt_of_heap ak,fun j u a2=>?_,S⟩;exact R6
def hg (n:Int):Prop:=-1000000000000000<=n/\n<=1000000000000000
theorem qQ {n:Int} (h:hg n):eO M dQ (.int n) (di n):=eY (qP h.1 h.2)
theorem yv:∀ (l:List eK),(∀ i ∈ l,hg i.op/\hg i.a/\hg i.b)->eu M dQ (lV l) (fw l)
 | [],_=>eu.nil
 | i :: r,h=>by
   have F:=h i (fI ..);simp only [lV,fw,ki];exact eu.append (.cons (qQ F.1) (.cons (qQ F.2.1) (.cons (qQ F.2.2) .nil))) (yv r (fun j a2=>h j (fh _ a2)))
theorem yw:∀ (l:List gd),(∀ i ∈ l,hg i.at_/\hg i.kind/\hg i.m)->eu M dQ (o8 l) (m3 l)
 | [],_=>eu.nil
 | i :: r,h=>by
   have F:=h i (fI ..);simp only [o8,m3,ki];exact eu.append (.cons (qQ F.1) (.cons (qQ F.2.1) (.cons (qQ F.2.2) .nil))) (yw r (fun j a2=>h j (fh _ a2)))
theorem yx:∀ (l:List Int),(∀ i ∈ l,hg i)->eu M dQ (fs l) (intV l)
 | [],_=>eu.nil
 | i :: r,h=>.cons (qQ (h i (fI ..))) (yx r (fun j a2=>h j (fh _ a2)))
theorem yy:∀ (l:List ByteArray),(∀ o ∈ l,o.size<=maxLen)->eu M dQ (eH l) (strV l)
 | [],_=>eu.nil
 | i :: r,h=>.cons (fz (h i (fI ..))) (yy r (fun j a2=>h j (fh _ a2)))
theorem vF (l:List eK):(lV l).length=l.length*3:=by
 induction l with
 | nil=>rfl
 | cons x r ay=>simp only [lV,ki,eM,gY] at ay ⊢;rw [ay];simp [eK.ds];omega
theorem vG (l:List gd):(o8 l).length=l.length*3:=by
 induction l with
 | nil=>rfl
 | cons x r ay=>simp only [o8,ki,eM,gY] at ay ⊢;rw [ay];simp [gd.ds];omega
theorem Dg (a5:Int):∀ (e:List gd) (D:Int),D<=a5->e.Pairwise (fun f al=>f.at_<al.at_)->(∀ f ∈ e,D<=f.at_/\f.at_<a5)->(e.length:Int)<=a5 - D
 | [],D,h,_,_=>Of
 | f :: r,D,h,aA,I=>by
   rw [List.pairwise_cons] at aA;have F:=I f (fI ..);have:=Dg a5 r (f.at_+1) N7 aA.2 (fun al ak=>⟨by have:=aA.1 al ak;omega,(I al (fh _ ak)).2⟩);rw [gY];omega
theorem pR (h:iy u = .ok o):o=eg u/\hf u gL gz=true/\Go.Lib.containsS u.uses u.name=false/\fN (e9 u)=false:=by
 unfold iy at h
 split at h
 . cases h
 . rename_i F
   split at h
   . cases h
   . rename_i J
     cases h;simp only [nE,hG] at F;exact ⟨rfl,by simpa using F.2,F.1,Pg⟩
theorem yA (h:hf u gL gz=true):(∀ i ∈ (e9 u).code,hg i.op/\hg i.a/\hg i.b)/\(∀ f ∈ (e9 u).fixes,hg f.at_/\hg f.kind/\hg f.m)/\(∀ x ∈ pZ u.parts,hg x)/\hg ((f7 u.parts).code.length:Int)/\(e9 u).fixes.length<=33000:=by
 obtain ⟨a7,_,X,a8⟩:=Ed h;have I:=vR h;have U:=tN (kS h).2.2;obtain ⟨e,ar,aA,Q⟩:=a7.fx
 have c:(e9 u).fixes=e:=by rw [ar];rfl
 subst c;refine ⟨fun i V=>?_,fun f Y=>?_,fun x S=>?_,by unfold hg;omega,?_⟩
 . obtain ⟨k,N,rfl⟩:=kI V
   have:=a7.ins k _ (dY _) (ew N);unfold lU at this;unfold hg;omega
 . obtain ⟨k,i,V,N,_,S⟩:=Q f Y
   have:=lr V;unfold hg
   rcases S with ⟨F,J,_⟩ | ⟨F,_,_,aa⟩<;>omega
 . rw [Ee,ig] at S
   obtain ⟨b,aB,e⟩:=S;have:=a8 b aB;unfold hg;omega
 . have:=Dg ((e9 u).code.length:Int) (e9 u).fixes 0 N7 aA (fun f Y=>by
    obtain ⟨k,i,V,N,_,_⟩:=Q f Y;have:=lr V
    omega)
   omega
theorem Dh (h:M.ownsRow y t sz (.slice a n q) n ao):n<=q:=by
 obtain ⟨_,_,e,F,_⟩:=hS h
 cases e
 exact F
theorem Di (ak:iy u = .ok o) (b3:kN w u a4 ad am f a5 y3) :
 dw 31 #[.agg #[.string u.name,.slice a4 u.uses.length ad,di u.data,.slice am u.parts.length f,.slice a5 u.main.length y3]] w fun e G=>∃ a4 ad a5 y3 ax b4 aG bx,e = .returned (.tuple #[.agg #[.string o.name,.slice a4 o.uses.length ad,di o.data,.slice a5 o.code.length y3,.slice ax o.fixes.length b4,.slice aG o.entries.length bx,di o.main],di 0])/\i1 G o a4 a5 ax aG/\o.uses.length<=ad/\dm w G:=
 (zg u a4 ad am f a5 y3 w b3 (by rw [ak];simp)).mono fun e G ⟨h,I⟩=>by
   obtain ⟨rfl,al,W,Y⟩:=pR ak;unfold q2 at h;rw [ak] at h;obtain ⟨aI,aD,a8,aB,a7,ab,ae,a,ar,F,J,U,aa⟩:=h;obtain ⟨ay,b1,eU,bH,s5⟩:=yA al;have hd:=oU (kS al).2.2;have aL:=tN (kS al).2.2;have bj:=qW (kS al).2.2;have aY:(eg u).entries.length=u.parts.length:=nW ..;have bP:=vR al;refine ⟨aI,aD,a8,aB,a7,ab,ae,a,ar,⟨b3.wn,?_,qP (by show _<=u.data;omega) (by show u.data<=_;omega),?_,?_,?_,qP bH.1 bH.2⟩,Dh F,I⟩
   . exact pQ F (yy _ (mm b3.uses).2) (by simp [eH]) (by show (eH u.uses).length<=_;simp [eH];omega)
   . exact pQ J (yv _ ay) (by rw [vF];omega) (by rw [vF];show (e9 u).code.length*3<=_;omega)
   . exact pQ U (yw _ b1) (by rw [vG];omega) (by rw [vG];show (e9 u).fixes.length*3<=_;omega)
   . exact pQ aa (yx _ eU) Ql O1
theorem LQ (ak:iy u = .error 2) (b3:kN w u a4 ad am f a5 y3) :
 dw 31 #[.agg #[.string u.name,.slice a4 u.uses.length ad,di u.data,.slice am u.parts.length f,.slice a5 u.main.length y3]] w fun e G=>e = .returned (.tuple #[.agg #[.string ⟨#[]⟩,dt,di 0,dt,dt,dt,di 0],di 2])/\dm w G:=
 (zg u a4 ad am f a5 y3 w b3 (by rw [ak];simp)).mono fun e G ⟨h,I⟩=>by
   unfold q2 at h;rw [ak] at h;exact ⟨h,I⟩
theorem LR {c:Int} (h:iy u = .error c):c=2\/(c=1/\(Go.Lib.containsS u.uses u.name || !hf u gL gz)=true):=by
 unfold iy at h
 split at h
 . rename_i F;cases h;exact Or.inr ⟨rfl,F⟩
 . split at h
   . cases h;exact Or.inl rfl
   . cases h
theorem LS (m:ec) (v:Value) (E:OA) (ah:Nat) (a0:OA) (ae:Nat) (a6:OA) (c3:Nat) (c:OA) (K:Nat) (l:List Fc) (al:OA) (bt:Nat) (w:World) (a7:gS w dQ m v E ah a0 ae a6 c3 c K) (b7:dx w dQ al l.length (qN l)) (aE:∀ an,nQ m l≠.error an) :
 dw 21 #[v,.slice al l.length bt] w fun e G=>Dc w.heap.size (nQ m l) e G/\dm w G:=by
 obtain rfl:=a7.val;have L:=hid a7
 have a:kK m:=by
  by_cases W:iY m=0
  . exact Cv (tj W)
  . exact absurd (if_pos W) (aE (iY m))
 have cj:=hid b7;have bK:=b7.bound;have aH:=a7.uses.bound;have ao:=hid (CR m _ E ah a0 ae a6 c3 c K ((w.alloc (jl m.name E m.uses.length ah a0 m.decls.length ae a6 m.procs.length c3 c m.main.length K)).alloc (fF ⟨#[]⟩ none 0 0 0 none 0 0 none 0 0)) (a7.later (e6 _ _ _)) a);clear a7 b7 a
 obtain ⟨r,Q⟩:∃ r,r=nQ m l:=⟨_,rfl⟩
 rw [← Q];have aI:=hid Q;rw [← Q] at aE;have y:=hid aE;clear Q aE;go_enter func21,ntmps21;go_wp2_with fail;refine ao.mono ?_;rintro e dk ⟨rfl,aq⟩;have B:=hid (dp (e6 w _ _) aq);have ba:=aq.size;simp at ba;have bm:=hid ((aq.block w.heap.size Of).trans (eR (dX w _)));have bw:Hid (dk.heap[w.heap.size+1]? = some (fF ⟨#[]⟩ none 0 0 0 none 0 0 none 0 0)):=(aq.block (w.heap.size+1) Ob).trans PY;obtain ⟨af,a4,am,a5,ax,a1⟩:=ep bm;obtain ⟨bG,bp,bx,bQ,r4,rf⟩:=ep bw;have H:=lt_of_heap bm;have bZ:=lt_of_heap bw;clear aq ao
 by_cases W:iY m=0
 case neg=>
  exact absurd (show r = .error (iY m) from aI.trans (if_pos W)) (y _)
 have b4:Hid (r=if l.length≠m.uses.length then .error 8 else if (l.zip m.uses).all iJ then mw m l else .error 1):=aI.trans (if_neg (by simp [W]));have b6:=hid W;rw [W];clear W aI
 by_cases b1:l.length=m.uses.length
 case neg=>
  exact absurd (show r = .error 8 from b4.trans (if_pos b1)) (y _)
 have aY:Hid (r=if (l.zip m.uses).all iJ then mw m l else .error 1):=b4.trans (if_neg (by simp [b1]));have n:=hid b1;have cp:=(th (tj b6)).1
 have ar:(l.length:Int)=(m.uses.length:Int):=N7
 clear b4 b1;go_wp2_with fail;clear ar
 go_loopw [7,8,24] (fun _ _ i wr=>∃ j:Nat,j<=l.length/\i=di j/\((l.zip m.uses).take j).all iJ=true/\dm dk wr) (fun _ _ i _=>l.length - (intOf i).toNat)
 case atStart=>exact ⟨0,dY _,rfl,rfl,Below.refl _ _⟩
 case round=>
  obtain ⟨j,a2,rfl,aS,A⟩:=hrel;have x:=hid aS;have ag:=hid A;have bj:=A.size;have bJ:=hid (dp B A);have ap:=hid ((A.block _ H).trans bm);have bW:=hid ((A.block _ bZ).trans bw);clear aS A af a4 am a5 ax a1 bG bp bx bQ r4 rf;obtain ⟨af,a4,am,a5,ax,a1⟩:=ep ap;obtain ⟨bG,bp,bx,bQ,r4,rf⟩:=ep bW;have aj:=lt_of_heap ap;have Z:=lt_of_heap bW
  by_cases ac:j<l.length
  . have S:j<m.uses.length:=by have:=n.out;omega
    obtain ⟨b,C,P,o,rfl,bb,D,ad,bF,cb⟩:=(cj.later bJ).fc j ac;obtain ⟨d,ou,rfl,ab,bf,X⟩:=(L.uses.later bJ).str j S;obtain ⟨b8,HFj⟩:=yt cb;have ay:=cb.bound;have ak:=hid (LL n j ac);have s:=hid (LM n j ac)
    have N:(j:Int)<m.uses.length:=N7
    generalize l[j]=f at *;generalize m.uses[j]'S=u at *;have O:=hid (fun M (ai:dm wr M)=>Fx.znn f P o M (b8.later ai) N7 bF HFj);have aQ:=hid (fun M (ai:Below (wr.alloc (.cells #[.string f.name,.slice P f.items.length o] 30)).heap.size (wr.alloc (.cells #[.string f.name,.slice P f.items.length o] 30)) M)=>(LO ai a4 aj bf ab:M.cell? (dj wr.heap.size 0)=some (.string f.name)/\M.cell? (dj wr.heap.size 1)=some (.slice P f.items.length o)/\M.cell? (dj w.heap.size 1)=some (.slice (some (dj d ou)) m.uses.length ah)/\M.cell? ⟨d,ou+j,none⟩=some (.string u)));have be:=hid (aQ _ (fA _));clear cb b8 HFj
    by_cases p:Fx.zq9 f=0
    . cases q:decide (f.name=u) with
      | true=>
        have k:Hid (iJ (f,u)=true):=by show iJ (f,u)=true;unfold iJ;simp only [p,q];rfl
        have aZ:Hid (((l.zip m.uses).take (j+1)).all iJ=true):=ak.trans (by rw [x.out,k.out];rfl);rw [p] at O;have g:(f.name.toList == u.toList)=true:=(Df _ _).trans q;clear ak s p;go_wp2_with fail
        go_region_held (fun M=>M.cell? (dj wr.heap.size 0)=some (.string f.name)/\M.cell? (dj wr.heap.size 1)=some (.slice P f.items.length o)/\M.cell? (dj w.heap.size 1)=some (.slice (some (dj d ou)) m.uses.length ah)/\M.cell? ⟨d,ou+j,none⟩=some (.string u)) (exact be)
         (first | (go_at_call 19;refine (O _ (gK wr _)).mono ?_;rintro e dC ⟨rfl,T⟩;have t:=hid (dp (fA (wr.alloc (.cells #[.string f.name,.slice P f.items.length o] 30))) T);have be:=hid (aQ _ t);clear T))
        have V:=hid (dp (dp bJ (dn wr (.cells #[.string f.name,.slice P f.items.length o] 30))) t);have bX:=t.size;simp at bX;have aF:=(t.block _ Of).trans (eR (o:=(.cells #[.string f.name,.slice P f.items.length o] 30)) bW);clear bG bp bx bQ r4 rf;obtain ⟨bG,bp,bx,bQ,r4,rf⟩:=ep aF;have az:=lt_of_heap aF;clear aF;go_wp2_with fail;go_roundw
        case rel=>exact ⟨j+1,N7,Ou,aZ,dp (dp ag (dn wr _)) t⟩
        case measure=>simp [intOf];omega
      | false=>
        have k:Hid (iJ (f,u)=false):=by show iJ (f,u)=false;unfold iJ;simp only [q,Bool.and_false]
        rw [p] at O;have g:(f.name.toList == u.toList)=false:=(Df _ _).trans q;clear ak p;exact Sl
    . have k:Hid (iJ (f,u)=false):=by show iJ (f,u)=false;unfold iJ;simp only [beq_eq_false_iff_ne.2 p,xA]
      exact Sl
  . obtain rfl:j=l.length:=by omega
    have b2:¬ (l.length<m.uses.length):=by have:=n.out;omega
    have J:Hid ((l.zip m.uses).all iJ=true):=by have:=x.out;rw [iq (by rw [uX];omega)] at this;exact this
    have z:Hid (r=mw m l):=aY.trans (if_pos J);have b9:=hid (LK m _ E ah a0 ae a6 c3 c K l al bt wr (L.later bJ) (tj b6) (cj.later bJ) (by have:=n.out;omega) (LN n J));go_wp2_with fail;refine b9.mono ?_;rintro e dJ ⟨Y,br⟩;have bu:=hid (dp bJ br);have bV:=br.size;have aF:=(br.block _ Z).trans bW;clear bG bp bx bQ r4 rf;obtain ⟨bG,bp,bx,bQ,r4,rf⟩:=ep aF;have a3:=lt_of_heap aF;clear br aF b9
    cases b3:mw m l with
    | error an=>
      rw [b3] at Y;obtain ⟨rfl,aX⟩:=Y;exact absurd (show r = .error an from z.trans b3) (y _)
    | ok R=>
      rw [b3] at Y;obtain ⟨bd,a9,bs,au,bI,bn,rfl,he1,F,he3⟩:=Y;have U:Hid (r = .ok R):=z.trans b3
      have bB:Hid (∀ aw aF aM bl a8,dU dJ (wr.heap.size<=·) (set5 dJ (w.heap.size+1) aw aF aM bl a8) (w.heap.size<=·)):=fun aw aF aM bl a8=>
       ((dU.refl dJ (wr.heap.size<=·)).set5 (b:=w.heap.size+1) (fun b _ I=>by have:wr.heap.size<=b:=I;omega) aw aF aM bl a8).trans ⟨dA _,fun b _ h=>⟨by have:wr.heap.size<=b:=h;show w.heap.size<=b;omega,rfl⟩⟩
      have aa:=hid he1;have av:=hid F;have cd:=hid he3;clear b3 he1 F he3;go_wp2_with fail;refine bodyPost_ret (v:=.tuple #[.agg #[.string R.name,.slice bd R.uses.length a9,di R.data,.slice bs R.parts.length au,.slice bI R.main.length bn],di 0]) (by simp [results,results21,go_sem,bG,bp,bx,bQ,r4,a3]) rfl ⟨?_,?_⟩
      . rw [U.out]
        exact ⟨bd,a9,bs,au,bI,bn,rfl,aa.moves (bB _ _ _ _ _),av.moves (bB _ _ _ _ _),cd.moves (bB _ _ _ _ _)⟩
      . exact je bu N7 _ _ _ _ _
end Go.Proofs.YtndkhgakfodldaaGreatDoor

namespace Go.Proofs.YtndkhgakfodldaaGreatDoor
open Go.RowKit Go.Shelf
section
variable {P:Program} {ops:Array Oper} {o:Oper} {a:Act} {w:World} {K:Act->World->Prop} {Y:Exit->Act->World->Prop} {E:Prop}
theorem run_callN (f:FuncId) (ao:Array Operand) (b:Array TypeId) (ap:o.op = .call { callee:=.value (.func f),args:=ao,argTypes:=b })
 (n:Enters P f) (al:Array Value) (S:ao.map a.eval=al):(execOp a.eval o).run P w = .ok (.enter f al) w:=by
 have h:=n al w;exact Rc
end
theorem dx.lower {w:World} {a:OA} {n:Nat} {ds:List D} (h:dx w dQ a n ds):dx w (·<w.heap.size) a n ds:=h.moves ⟨dA _,fun b I _=>⟨I,rfl⟩⟩
end Go.Proofs.YtndkhgakfodldaaGreatDoor
