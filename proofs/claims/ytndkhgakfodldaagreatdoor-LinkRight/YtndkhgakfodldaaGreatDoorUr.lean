import Derived.Deep.DeepCutAuto
import Derived.Test.YtndkhgakfodldaaGreatDoorNo
namespace Go.Proofs.YtndkhgakfodldaaGreatDoor
set_option maxRecDepth 100000
set_option maxHeartbeats 8000000
open Go.RowKit Go.Maps Go.WideMaps
set_option linter.unusedSimpArgs false
theorem zjp {ops:Array Oper} {o:Oper} {a:Act} {K:Act->World->Prop} {Q:Exit->Act->World->Prop} {E:Prop} {w:World} (BC:o.guard=none) (s x:Operand)
 (ho:o.op = .call { callee:=.builtin .append,args:=#[s,x],argTypes:=#[22,22] }) (us:List ByteArray) (b:OA) (c:Nat) (hs:a.eval s=qs) (hx:a.eval x = .slice b us.length c) (hS:Fx.zfe w b us) (Ah:us.length<=10000)
 (h:∀ v' w',w'.ownsRow w.heap.size 9 1 v' us.length (strV us)->qb w w'->K (a.put o.dst v') w') :
 if Region.wanted o (yielded ops a.tmps)=true then Oper.wp Tryz.prog o a w K Q else E:=by
 have hw:Region.wanted o (yielded ops a.tmps)=true:=by simp [Region.wanted,BC]
 rw [if_pos hw];obtain ⟨v',w',hr,h2,h3⟩:=zdb w.heap.size o.type (qs) 0 [] (vek _ _ _ _) us b c hS (by omega) (vaa _);refine Lib.wp_append_run w s x _ _ ho _ _ hs hx v' w' hr (h v' w' (by simpa using h2) ?_);exact (Below.refl w.heap.size w).grown h3 (vaa _) (fun k hk=>by simp [Value.ownBlock] at hk)
theorem Tryz.infoPart:(Tryz.prog.info? 106).map (fun i=>(i.zero,i.size,i.bytes))=some (some (.agg #[qi 0,qi 0,qs]),3,40):=by kernel_rfl
theorem z3a {A:Nat->Prop} {t:Pt} {w:World} {a:OA} {cap:Nat} (h:EAt w A a t.body.length (zdm t.body)):zau w A t.ds [qi t.params,qi t.locals,.slice a t.body.length cap]:=.cons zpw (.cons zpw (.cons h.val .nil))
theorem zz9 (l:List Pt) (x:Pt):zk7 (l++[x])=zk7 l++x.ds:=by simp [zk7]
theorem zve {w:World} {b:Nat} {x0 x1 x2 x3 x4:Value} {t:TypeId} (h:w.heap[b]? = some (.cells #[x0,x1,x2,x3,x4] t (0,0))):w.cell? (qa b 0)=some x0/\w.cell? (qa b 1)=some x1/\w.cell? (qa b 2)=some x2/\w.cell? (qa b 3)=some x3/\w.cell? (qa b 4)=some x4/\(∀ i,w.frozen? (qa b i)=false)/\b<w.heap.size:=by
 obtain ⟨h0,h1,h2,h3,h4,h5⟩:=zaa h;exact ⟨h0,h1,h2,h3,h4,h5,lt_of_heap h⟩
theorem zln {W:World} {b:Nat} {x0 x1:Value} (hb:b<W.heap.size) (h:W.cell? (qa b 0)=some x0/\W.cell? (qa b 1)=some x1) (o:Obj):(W.alloc o).cell? (qa b 0)=some x0/\(W.alloc o).cell? (qa b 1)=some x1:=
 ⟨((al1 W o).cell (p:=(qa b 0)) hb).trans h.1,((al1 W o).cell (p:=(qa b 1)) hb).trans h.2⟩
theorem zwy {W:World} {b:Nat} {x0 x1:Value} (hb:b<W.heap.size) (h:W.cell? (qa b 0)=some x0/\W.cell? (qa b 1)=some x1) (o:Obj):(W.alloc o).drew.cell? (qa b 0)=some x0/\(W.alloc o).drew.cell? (qa b 1)=some x1:=zln hb h o
theorem z54 {W:World} {b c:Nat} {x0 x1:Value} (hn:b≠c) (h:W.cell? (qa b 0)=some x0/\W.cell? (qa b 1)=some x1) (u0 u1 u2 u3 u4:Value) :
 (((((W.setCell (qa c 0) u0).setCell (qa c 1) u1).setCell (qa c 2) u2).setCell (qa c 3) u3).setCell (qa c 4) u4).cell? (qa b 0)=some x0/\(((((W.setCell (qa c 0) u0).setCell (qa c 1) u1).setCell (qa c 2) u2).setCell (qa c 3) u3).setCell (qa c 4) u4).cell? (qa b 1)=some x1:=by
 have e:(((((W.setCell (qa c 0) u0).setCell (qa c 1) u1).setCell (qa c 2) u2).setCell (qa c 3) u3).setCell (qa c 4) u4).heap[b]? = W.heap[b]?:=(heap_set_ne hn _).trans ((heap_set_ne hn _).trans ((heap_set_ne hn _).trans ((heap_set_ne hn _).trans (heap_set_ne hn _))));exact ⟨(vei (w:=W) (a:=(qa b 0)) e).trans h.1,(vei (w:=W) (a:=(qa b 1)) e).trans h.2⟩
theorem bdrew (w:World):qb w w.drew:=(Below.refl _ _).drew
theorem zbe (w:World) (o:Obj):qb w (w.alloc o).drew:=((Below.refl _ w).alloc (vaa _) o).drew
theorem zwz {w wu:World} {x0 x1 x2 x3 x4:Value} {t:TypeId} (hb:Below (w.alloc (.cells #[x0,x1,x2,x3,x4] t)).drew.heap.size (w.alloc (.cells #[x0,x1,x2,x3,x4] t)).drew wu) :
 wu.cell? (qa w.heap.size 0)=some x0/\wu.cell? (qa w.heap.size 1)=some x1/\wu.cell? (qa w.heap.size 2)=some x2/\wu.cell? (qa w.heap.size 3)=some x3/\wu.cell? (qa w.heap.size 4)=some x4/\(∀ i,wu.frozen? (qa w.heap.size i)=false)/\w.heap.size<wu.heap.size:=by
 have h:wu.heap[w.heap.size]? = some (.cells #[x0,x1,x2,x3,x4] t):=(hb.block w.heap.size (by show w.heap.size<(w.alloc _).heap.size;simp)).trans (heap_newP w _);obtain ⟨h0,h1,h2,h3,h4,h5⟩:=zaa h;exact ⟨h0,h1,h2,h3,h4,h5,lt_of_heap h⟩
theorem znv {A:Nat->Prop} {w:World}:∀ (l:List ByteArray),(∀ s ∈ l,s.size<=maxLen)->zau w A (zaj l) (strV l)
 | [],_=>.nil
 | s :: r,h=>.cons (zw9 (h s (by simp))) (znv r fun x hx=>h x (by simp [hx]))
theorem z3b {w:World} {B:Nat} {v:Value} {l:List ByteArray} (h:w.ownsRow B 9 1 v l.length (strV l)) (hs:∀ s ∈ l,s.size<=maxLen):∀ a cap,v = .slice a l.length cap->EAt w (B<=·) a l.length (zaj l):=by
 rintro a cap rfl;exact EAt.of_own h (fun _ h=>h) (znv l hs)
theorem z3c (m:Mo) (v:Value) (a1:OA) (c1:Nat) (a2:OA) (c2:Nat) (a3:OA) (c3:Nat) (a4:OA) (c4:Nat) (l:List Fc) (al:OA) (cl:Nat) (w:World) (hM:MoAt w Tt m v a1 c1 a2 c2 a3 c3 a4 c4) (he:m.err=0) (hF:DAt w Tt al l.length (z50 l)) (Co:l.length<=3) (G5:∀ f ∈ l,f.items.length<=16) :
 qc 64 #[v,.slice al l.length cl] w fun e w'=>zz8 w.heap.size (zjo m l) e w'/\qb w w':=by
 obtain rfl:=hM.val;have HM:=hid hM;have GH:=zz0 he;have Na:=hid (zfb he);have Ku:=hid hF;have Lp:=hid G5;have HC:=hid (ziu m _ a1 c1 a2 c2 a3 c3 a4 c4 ((w.alloc (kzG m.name a1 m.uses.length c1 a2 m.decls.length c2 a3 m.procs.length c3 a4 m.main.length c4)).alloc (kzC ⟨#[]⟩ none 0 0 0 none 0 0 none 0 0)) (hM.later (bl2 _ _ _)) GH)
 have Pz:Hid ((za6 m).length<=16):=by have h1:=GH.decls;have h2:=GH.procs;show (za6 m).length<=16;rw [zgd];omega
 have Jx:=GH.decls;have Of:=GH.procs;clear hM hF G5 he GH;go_enter Tryz.func64,Tryz.ntmps64;go_wp2_with fail;refine HC.out.mono ?_;rintro e w1 ⟨⟨ai,ci,rfl,hit⟩,A6⟩;have A7:=hid (thenB (bl2 w _ _) A6);have An:=A6.size;simp at An;have P0:=hid ((A6.block w.heap.size (by simp;omega)).trans (zab (heap_newP w _)));have P1:Hid (w1.heap[w.heap.size+1]? = some (kzC ⟨#[]⟩ none 0 0 0 none 0 0 none 0 0)):=(A6.block (w.heap.size+1) (by simp)).trans (by simpa using heap_newP (w.alloc _) _);obtain ⟨HI,HF⟩:=zpc hit;have Ko:=hid HI;have Kv:=hid HF;have GX:=@run_makeMap Tryz.prog;have Ki:=hid ((zl2.made w1).later (al1 _ (.cells #[.map (some w1.heap.size)] 189)));have RY:=hid (zlm HI (R:=w1.heap.size) (vaa _));have Bp:=hid (zlh (fun _ _=>none) w1.heap.size 0 ⟨#[]⟩ 0 (za6 m) ai ci ((w1.alloc (.map #[] 0)).alloc (.cells #[.map (some w1.heap.size)] 189)) Ki.out (vag _) (HI.later (bl2 _ _ _)) HF (by have:=Pz.out;omega) (by omega) RY.out)
 clear A6 hit HI HF HC;go_wp2_with fail;refine Bp.out.mono ?_;rintro e w2 ⟨rfl,hkm,Bg⟩
 have IR:Hid (zl2 w2 w1.heap.size (za6 m).length (z52 m)):=by have:=hkm;rw [vba] at this;exact this
 have HE:=hid Bg;clear hkm Bg Bp GX Ki;go_wp2_with fail
 go_loopw [9,10,30] (fun _ _ i wr=>∃ (j n:Nat),j<=l.length/\i=qi j/\n<=16+16*j/\zl2 wr w1.heap.size n (zh8 (z52 m) (l.take j))/\Keeps w1.heap.size ((w1.alloc (.map #[] 0)).alloc (.cells #[.map (some w1.heap.size)] 189)) wr) (fun _ _ i _=>l.length - (intOf i).toNat)
 case atStart=>exact ⟨0,_,vag _,rfl,by have:=Pz.out;omega,IR.out,HE.out⟩
 case round =>
  clear IR HE;obtain ⟨j,n,hj,rfl,hn,hkm,Bg⟩:=hrel;have IR:=hid hkm;have HE:=hid Bg;have Cd:=Bg.size;simp at Cd;have nb:wr.heap[w1.heap.size+1]? = some (.cells #[.map (some w1.heap.size)] 189):=(Bg.block _ (by simp) (by omega)).trans (by simpa using heap_newP (w1.alloc (.map #[] 0)) (.cells #[.map (some w1.heap.size)] 189));have RM:=hid nb
  have k0:wr.cell? ⟨w1.heap.size+1,0,none⟩=some (.map (some w1.heap.size)):=by rw [vef nb];rfl
  have Oi:=lt_of_heap nb;have D0:Hid (qb w wr):=Keeps.below (thenB A7.out (bl2 _ _ _)) HE.out (by omega) (by simp;omega);clear hkm Bg nb
  by_cases A4:j<l.length
  . obtain ⟨b,off,aj,cj,rfl,Au,x0,x1,B6,hdj⟩:=(Ku.out.later D0.out).fc j A4
    obtain ⟨b',Cb,aj',cj',E2,hbl0,_,x1',_,hdj0⟩:=Ku.out.fc j A4
    have Ow:aj'=aj:=by
     have e0:=vab E2
     injection e0 with e1 e2
     subst e1 e2;have:=(D0.out.cell (p:=⟨b,off+j*2+1,none⟩) hbl0).trans x1';rw [this] at x1;have:=vab x1;injection this
    subst Ow;obtain ⟨DI,HFj⟩:=zll hdj;have Oy:=zlm (zll hdj0).1 (R:=w1.heap.size) (by omega);have Rf:=Lp.out l[j] (vaj _)
    have BR:Hid (ziw (zh8 (z52 m) (l.take j)) l[j].name ((j:Int)+1) l[j].items=zh8 (z52 m) (l.take (j+1))):=by
     show _=zh8 (z52 m) (l.take (j+1));rw [vaf A4,ztc,vcc,vdl (by omega)]
    have J7:IntKind.i64.wrap ((j:Int)+1)=(j:Int)+1:=by simp only [IntKind.wrap,IntKind.bits,IntKind.signed];simp;omega
    clear E2 hbl0 x1' hdj hdj0;generalize l[j]=f at *;have BK:=hid (zlh (zh8 (z52 m) (l.take j)) w1.heap.size n f.name ((j:Int)+1) f.items aj' cj (wr.alloc (.cells #[.string f.name,.slice aj' f.items.length cj] 30)) (IR.out.later (al1 _ _)) B6 (DI.later (al1 _ _)) HFj (by omega) (by omega) Oy);clear B6 DI HFj Oy;go_wp2_with fail;refine BK.out.mono ?_;rintro e w3 ⟨rfl,hkm3,hke3⟩;rw [BR.out] at hkm3;have Np:=hid hkm3;have IV:=hid ((HE.out.alloc (.cells #[.string f.name,.slice aj' f.items.length cj] 30)).trans hke3);clear hkm3 hke3 BK;go_wp2_with fail;go_roundw
    case rel=>exact ⟨j+1,n+f.items.length,by omega,by go_num,by omega,Np.out,IV.out⟩
    case measure=>simp [intOf];omega
  . obtain rfl:j=l.length:=by omega
    have RX:Hid (zmg wr (.map (some w1.heap.size)) (zd9 m l)):=by have:=IR.out.known;rw [vau] at this;exact this
    have Q0:Hid (wr.heap[w.heap.size]? = some (kzG m.name a1 m.uses.length c1 a2 m.decls.length c2 a3 m.procs.length c3 a4 m.main.length c4)):=(HE.out.block _ (by simp;omega) (by omega)).trans (zab (zab P0.out));have Q1:Hid (wr.heap[w.heap.size+1]? = some (kzC ⟨#[]⟩ none 0 0 0 none 0 0 none 0 0)):=(HE.out.block _ (by simp;omega) (by omega)).trans (zab (zab P1.out));have I1:=hid (fun W (hW:qb wr W)=>((zel HM.out.uses).1.later (thenB D0.out hW)));obtain ⟨x0,x1,x2,x3,x4,xf⟩:=zaa Q0.out;have Bo:=lt_of_heap Q0.out;have KF:=Na.out.1;have RE:=hid (zel HM.out.uses).2;have PM:=hid (fun W (hW:qb wr W)=>zve ((hW.block _ Bo).trans Q0.out));clear IR HE k0;go_wp2_with fail
    obtain ⟨wL,hwL⟩:∃ x,x=wr:=⟨_,rfl⟩
    subst hwL
    go_cut [11] (fun v wc=>∃ (U:Nat) (au:OA) (cu:Nat),v=pq U 0/\wL.heap.size<=U/\Hid (qb wL wc)/\Hid (wc.heap[U]? = some (kzC m.name au m.uses.length cu (zb3 m) none 0 0 none 0 0))/\Hid (EAt wc (fun b=>wL.heap.size<=b/\b≠U) au m.uses.length (zaj m.uses)))
    case first=>
     have Jf:w.heap.size≠wL.heap.size:=by omega
     have FF0:Hid (wL.cell? (qa w.heap.size 0)=some (.string m.name)/\wL.cell? (qa w.heap.size 1)=some (.slice a1 m.uses.length c1)):=⟨x0,x1⟩
     have FF:Hid (wL.drew.cell? (qa w.heap.size 0)=some (.string m.name)/\wL.drew.cell? (qa w.heap.size 1)=some (.slice a1 m.uses.length c1)):=⟨x0,x1⟩
     go_region_held_law (fun W=>W.cell? (qa w.heap.size 0)=some (.string m.name)/\W.cell? (qa w.heap.size 1)=some (.slice a1 m.uses.length c1)) (first | with_reducible exact FF.out | with_reducible exact zln FG FF.out _ | with_reducible exact zwy Bo FF0.out _ | with_reducible exact zln Bo FF0.out _ | with_reducible exact z54 Jf FF.out _ _ _ _ _)
      (first | (refine zjp rfl _ _ rfl m.uses a1 c1 rfl rfl (I1.out _ (by first | exact bdrew wL | exact zbe wL _)) (by omega) ?_;intro vu wu hou G2;have PH:=hid (z3b hou RE.out);obtain ⟨au,cu,rfl,_⟩:=zj4 hou;clear hou;(first | (refine And.elim ?_ (zwz G2);intro e0 Bn;obtain ⟨e1,e2,e3,e4,ef,F1⟩:=Bn;refine And.elim ?_ (PM.out wu (thenB (zbe wL _) G2));intro f0 fr;obtain ⟨f1,f2,f3,f4,ff,FG⟩:=fr;have Ll:=hid (thenB (zbe wL _) G2);have FF:=hid (And.intro f0 f1)) | (refine And.elim ?_ (PM.out wu (thenB (bdrew wL) G2));intro f0 fr;obtain ⟨f1,f2,f3,f4,ff,FG⟩:=fr;have Ll:=hid (thenB (bdrew wL) G2);have FF:=hid (And.intro f0 f1)))))
     . have HW:Hid (qb wL (wu.alloc (kzC m.name au m.uses.length cu (zb3 m) none 0 0 none 0 0))):=thenB Ll.out (al1 _ _)
       have HU:Hid ((wu.alloc (kzC m.name au m.uses.length cu (zb3 m) none 0 0 none 0 0)).heap[wu.heap.size]? = some (kzC m.name au m.uses.length cu (zb3 m) none 0 0 none 0 0)):=heap_newP _ _;have HA:Hid (EAt (wu.alloc (kzC m.name au m.uses.length cu (zb3 m) none 0 0 none 0 0)) (fun b=>wL.heap.size<=b/\b≠wu.heap.size) au m.uses.length (zaj m.uses)):=(PH.out au cu rfl).moves ⟨by simp,fun b hb h=>⟨⟨h,by omega⟩,(al1 _ _).block b hb⟩⟩;have hU:wL.heap.size<=wu.heap.size:=Ll.out.size;go_wp2_with fail;go_meet;exact ⟨_,au,cu,rfl,hU,HW,HU,HA⟩
     . have HW:Hid (qb wL (((((wu.setCell (qa wL.heap.size 0) (.string m.name)).setCell (qa wL.heap.size 1) (.slice au m.uses.length cu)).setCell (qa wL.heap.size 2) (qi (zb3 m))).setCell (qa wL.heap.size 3) (qs)).setCell (qa wL.heap.size 4) (qs))):=zdx Ll.out (vaa _) _ _ _ _ _
       have HU:Hid ((((((wu.setCell (qa wL.heap.size 0) (.string m.name)).setCell (qa wL.heap.size 1) (.slice au m.uses.length cu)).setCell (qa wL.heap.size 2) (qi (zb3 m))).setCell (qa wL.heap.size 3) (qs)).setCell (qa wL.heap.size 4) (qs)).heap[wL.heap.size]? = some (kzC m.name au m.uses.length cu (zb3 m) none 0 0 none 0 0)):=heap_set (heap_set (heap_set (heap_set (heap_set ((G2.block wL.heap.size (by show wL.heap.size<(wL.alloc _).heap.size;simp)).trans (heap_newP wL _)) _) _) _) _) _;have HA:Hid (EAt (((((wu.setCell (qa wL.heap.size 0) (.string m.name)).setCell (qa wL.heap.size 1) (.slice au m.uses.length cu)).setCell (qa wL.heap.size 2) (qi (zb3 m))).setCell (qa wL.heap.size 3) (qs)).setCell (qa wL.heap.size 4) (qs)) (fun b=>wL.heap.size<=b/\b≠wL.heap.size) au m.uses.length (zaj m.uses)):=((PH.out au cu rfl).moves ⟨vaa _,fun b hb h=>⟨(⟨by have:(wL.alloc _).heap.size<=b:=h;simp at this;omega,by have:(wL.alloc _).heap.size<=b:=h;simp at this;omega⟩:wL.heap.size<=b/\b≠wL.heap.size),rfl⟩⟩:EAt wu (fun b=>wL.heap.size<=b/\b≠wL.heap.size) au m.uses.length (zaj m.uses)).moves ((zad.refl wu (fun b=>wL.heap.size<=b/\b≠wL.heap.size)).set5 (by intro k _ hk;exact hk.2) _ _ _ _ _)
       have hU:wL.heap.size<=wL.heap.size:=vaa _;go_wp2_with fail;go_meet;exact ⟨_,au,cu,rfl,hU,HW,HU,HA⟩
    case rest=>
     obtain ⟨U,au,cu,rfl,hU,HW,HU,HA⟩:=hcut;have T4:=lt_of_heap HU.out;have T0:=hid ((HW.out.block _ Bo).trans Q0.out);have T1:=hid ((HW.out.block _ (lt_of_heap Q1.out)).trans Q1.out);have T2:=hid ((HW.out.block _ Oi).trans RM.out);have CI:=lt_of_heap Q1.out;clear x0 x1 x2 x3 x4 xf;generalize wc=W3 at *;obtain ⟨x0,x1,x2,x3,x4,xf⟩:=zaa T0.out;have M4:=lt_of_heap T0.out;have M3:=lt_of_heap T1.out;have M2:=lt_of_heap T2.out;have Bz:=HW.out.size;go_wp2_with fail;clear x0 x1 x2 x3 x4 xf
     go_loopw [13,14,15,54] (fun _ _ _ i wt=>∃ (j:Nat) (A5:List Pt) (vp:Value),j<=m.procs.length/\i=qi j/\A5.length=j/\zcb (zd9 m l) (m.procs.take j) = .ok A5/\wt.heap[U]? = some (.cells #[.string m.name,.slice au m.uses.length cu,qi (zb3 m),vp,qs] 42)/\Row W3.heap.size 106 3 wt vp A5.length (zk7 A5)/\Keeps U W3 wt) (fun _ _ _ i _=>m.procs.length - (intOf i).toNat)
     case atStart=>exact ⟨0,[],qs,vag _,rfl,rfl,rfl,HU.out,Row.nil _ _ _ _,Keeps.refl _ _⟩
     case round=>
      clear HU;obtain ⟨j,A5,vp,hj,rfl,hacc,hpm,Gp,Aa,Bg⟩:=hrel;have N9:=hid hpm;have GA:=hid Gp;have L6:=hid Aa;have Pv:=hid Bg;have Su:=Bg.size;have OM:=lt_of_heap Gp;have R0:=hid ((Bg.block _ M4 (by omega)).trans T0.out);have R1:=hid ((Bg.block _ M3 (by omega)).trans T1.out);have R2:=hid ((Bg.block _ M2 (by omega)).trans T2.out);have PN:Hid (qb wL wr):=Keeps.below HW.out Bg hU (by omega);have BV:=hid (thenB D0.out PN.out);have Ps:=hid (RX.out.later PN.out);obtain ⟨x0,x1,x2,x3,x4,xf⟩:=zaa R0.out
      have n0:wr.cell? ⟨w1.heap.size+1,0,none⟩=some (.map (some w1.heap.size)):=by rw [vef R2.out];rfl
      have Qy:=lt_of_heap R0.out;have Jp:=lt_of_heap R1.out;have Qx:=lt_of_heap R2.out;clear hpm Gp Aa Bg
      by_cases A4:j<m.procs.length
      . obtain ⟨b,off,q1,d1,q2,d2,q3,d3,rfl,hx⟩:=(HM.out.procs.later BV.out).pr j A4
        obtain ⟨Au,g0,g1,g2,g3,g4,Dq,Ec,Iy,B6⟩:=hx;obtain ⟨Oe,LN,Fz⟩:=Na.out.2.2.2.1 m.procs[j] (vaj _);have Er:=hid (fun c (he:zlk (zd9 m l) m.procs[j] = .error c)=>zwx (zww A4 N9.out he));have GD:=hid (fun y (he:zlk (zd9 m l) m.procs[j] = .ok y)=>ztd A4 N9.out he);generalize m.procs[j]=p at *;have D5:=hid (z29 (zd9 m l) w1.heap.size p q1 d1 q2 d2 q3 d3 (wr.alloc (kzK p.name p.pub q1 p.params.length d1 q2 p.locals.length d2 q3 p.body.length d3)) (Ps.out.later (al1 _ _)) (Dq.later (al1 _ _)) (Ec.later (al1 _ _)) (Iy.later (al1 _ _)) Oe LN Fz);clear Dq Ec Iy Oe LN Fz B6 x0 x1 x2 x3 x4 xf;go_wp2_with fail;refine D5.out.mono ?_;rintro e w4 ⟨Ai,Aj⟩;have Ar:=hid (thenB (al1 wr _) Aj);have D1:=Aj.size;simp at D1;clear Aj D5 n0 g0 g1 g2 g3 g4
        cases hr:zlk (zd9 m l) p with
        | error c=>
          rw [hr] at Ai;obtain ⟨px,py,pa,pk,pc,rfl,Ak⟩:=Ai;have HR:=hid (Er.out c hr);have v1:=(Ar.out.block _ Jp).trans R1.out;have EV:=lt_of_heap v1;obtain ⟨r0,r1,r2,r3,r4,rf⟩:=zaa v1;clear hr v1;go_wp2_with fail;refine bodyPost_ret (v:=.tuple #[.agg #[.string ⟨#[]⟩,qs,qi 0,qs,qs],qi c]) (by simp [results,Tryz.results64,go_sem,r0,r1,r2,r3,r4,EV]) rfl ⟨by rw [HR.out];exact ⟨rfl,Ak⟩,?_⟩;exact (zdx (thenB BV.out Ar.out) (by omega) _ _ _ _ _).alloc (by simp;omega) _
        | ok t=>
          rw [hr] at Ai;obtain ⟨pa,pc,rfl,hea⟩:=Ai;have HR:=hid (GD.out t hr);have El:=hid ((Ar.out.block _ OM).trans GA.out);have JY:Hid (Row W3.heap.size 106 3 (w4.alloc (kzL t.params t.locals pa t.body.length pc)) vp A5.length (zk7 A5)):=(L6.out.later Ar.out).alloc _;have PI:Hid (zau (w4.alloc (kzL t.params t.locals pa t.body.length pc)) (wr.heap.size+1<=·) t.ds [qi t.params,qi t.locals,.slice pa t.body.length pc]):=z3a (hea.moves (((zad.refl w4 _).alloc _).trans ⟨vaa _,fun b _ h=>⟨by simp at h;exact h,rfl⟩⟩));have Kd:=hid (fun k hk=>(L6.out.lt k hk).2);obtain ⟨o0,o1,o2,o3,o4,of⟩:=zaa El.out;have MA:=lt_of_heap El.out;have Kl:=hid (((Pv.out.later Ar.out)).alloc (kzL t.params t.locals pa t.body.length pc));clear hr hea
          go_wp2_with (at_builtin;refine zbs rfl (.tmp 69) (.tmp 71) 39 rfl W3.heap.size 106 _ 3 40 Tryz.underlying39 Tryz.infoPart rfl (by decide) (w4.alloc (kzL t.params t.locals pa t.body.length pc)) vp A5.length (zk7 A5) t.ds rfl JY.out #[qi t.params,qi t.locals,.slice pa t.body.length pc] _ (by simp) rfl rfl (wr.heap.size+1<=·) PI.out ?_ (by omega) (by decide) (by simp;omega) ?_)
          . intro b _ hb
            have AZ:wr.heap.size+1<=b:=hb;exact ⟨by omega,fun h=>by have:=Kd.out b h;omega⟩
          . intro g5 c5 w5 Bq Av C4
            have Kk:=hid (Kl.out.belowOf Av);have I2:=hid ((Av.block _ (by omega)).trans (zab El.out));have B5:=hid (Bq.set (p:=(qa U 3)) (by show U<W3.heap.size;omega) (.slice (some (qa g5 0)) (j+1) c5));have MY:Hid ((w5.setCell (qa U 3) (.slice (some (qa g5 0)) (j+1) c5)).heap[U]? = some (kzC m.name au m.uses.length cu (zb3 m) (some (qa g5 0)) (j+1) c5 none 0 0)):=heap_set I2.out _;have Nq:=hid (Kk.out.own 3 (.slice (some (qa g5 0)) (j+1) c5));obtain ⟨s0,s1,s2,s3,s4,sf⟩:=zaa I2.out;have QZ:=lt_of_heap I2.out;clear Bq Av JY PI o0 o1 o2 o3 o4 of Kk Kl;go_wp2_with fail;go_roundw
            case rel=>exact ⟨j+1,A5++[t],_,by omega,by go_num,by simp [hacc],HR.out,MY.out,by rw [zz9,vam,hacc];exact B5.out,Nq.out⟩
            case measure=>simp [intOf];omega
      . obtain rfl:j=m.procs.length:=by omega
        have Pf:Hid (zcb (zd9 m l) m.procs = .ok A5):=by have:=N9.out;rw [vau] at this;exact this
        have BU:=hid (zj2 6 m.main Na.out.2.2.2.2 (zd9 m l) (fun _=>none) (.map (some w1.heap.size)) (.map none) Tt a4 c4 wr Ps.out (zwv wr) (HM.out.main.later BV.out));go_wp2_with fail;refine BU.out.mono ?_;rintro e w4 ⟨Ai,Aj⟩;have Ar:=hid Aj;have D1:=Aj.size;have v1:=(Aj.block _ Jp).trans R1.out;have EV:=lt_of_heap v1;obtain ⟨r0,r1,r2,r3,r4,rf⟩:=zaa v1;have El:=hid ((Aj.block _ OM).trans GA.out);clear Aj BU v1 n0 x0 x1 x2 x3 x4 xf
        cases hr:zfo (zd9 m l) (fun _=>none) m.main with
        | error c=>
          rw [hr] at Ai;obtain ⟨rfl,Ak⟩:=Ai;have HR:=hid (zz7 Pf.out hr);clear hr;go_wp2_with fail;refine bodyPost_ret (v:=.tuple #[.agg #[.string ⟨#[]⟩,qs,qi 0,qs,qs],qi c]) (by simp [results,Tryz.results64,go_sem,r0,r1,r2,r3,r4,EV]) rfl ⟨by rw [HR.out];exact ⟨rfl,Ak⟩,?_⟩;exact zdx (thenB BV.out Ar.out) (by omega) _ _ _ _ _
        | ok bd=>
          rw [hr] at Ai;obtain ⟨ab,cb,rfl,hea⟩:=Ai;have HR:=hid (z53 Pf.out hr);obtain ⟨ap,cp,rfl,hep⟩:=L6.out.slice;obtain ⟨o0,o1,o2,o3,o4,of⟩:=zaa El.out;have MA:=lt_of_heap El.out
          have SZ:U≠w.heap.size+1:=by omega
          have Fh:Hid (∀ u v0 v1 v2 v3 v4,∀ A:Nat->Prop,(∀ b,A b->w.heap.size+2<=b/\b≠U)->zad w4 A (set5 (w4.setCell (qa U 4) u) (w.heap.size+1) v0 v1 v2 v3 v4) (w.heap.size<=·)):=fun u v0 v1 v2 v3 v4 A hA=>
           (((zad.refl w4 A).set (p:=(qa U 4)) (fun b _ hb=>(hA b hb).2) u).set5 (b:=w.heap.size+1) (fun b _ hb=>by have:=(hA b hb).1;omega) v0 v1 v2 v3 v4).trans ⟨vaa _,fun b _ h=>⟨by have:=(hA b h).1;show w.heap.size<=b;omega,rfl⟩⟩
          have Ln:Hid (EAt w4 (fun b=>wL.heap.size<=b/\b≠U) au m.uses.length (zaj m.uses)):=(HA.out.moves ((zad.refl W3 _).keeps Pv.out (fun b _ h=>h.2))).later Ar.out;have CK:Hid (EAt w4 (W3.heap.size<=·) ap A5.length (zk7 A5)):=hep.later Ar.out;have RQ:Hid (EAt w4 (wr.heap.size<=·) ab bd.length (zdm bd)):=hea;have Ss:=D0.out.size;clear hr hea hep L6;go_wp2_with fail;refine bodyPost_ret (v:=.tuple #[.agg #[.string m.name,.slice au m.uses.length cu,qi (zb3 m),.slice ap A5.length cp,.slice ab bd.length cb],qi 0]) (by simp [results,Tryz.results64,go_sem,r0,r1,r2,r3,r4,EV,hacc]) rfl ⟨?_,?_⟩
          . rw [HR.out]
            exact ⟨au,cu,ap,cp,ab,cb,rfl,Ln.out.moves (Fh.out _ _ _ _ _ _ _ (fun b h=>⟨by have:=h.1;omega,h.2⟩)),CK.out.moves (Fh.out _ _ _ _ _ _ _ (fun b h=>by have:W3.heap.size<=b:=h;exact ⟨by omega,by omega⟩)),RQ.out.moves (Fh.out _ _ _ _ _ _ _ (fun b h=>by have:wr.heap.size<=b:=h;exact ⟨by omega,by omega⟩))⟩
          . exact zdx ((thenB BV.out Ar.out).setCell (p:=(qa U 4)) (by show w.heap.size<=U;omega) _) (by omega) _ _ _ _ _
def za7 (p:Fc × ByteArray):Bool:=Fx.zl0 p.1 == 0&&decide (p.1.name=p.2)
def zee (m:Mo) (l:List Fc):Except Int Un:=
 if chkM m≠0 then .error (chkM m) else if l.length≠m.uses.length then .error 8 else if (l.zip m.uses).all za7 then zjo m l else .error 1
theorem z3d {m:Mo} {l:List Fc} (hl:l.length=m.uses.length) (j:Nat) (h:j<l.length):((l.zip m.uses).take (j+1)).all za7=(((l.zip m.uses).take j).all za7&&za7 (l[j],m.uses[j]'(by omega))):=by
 have hz:j<(l.zip m.uses).length:=by rw [vdo];omega
 rw [vaf hz,vbm,vdx];simp
theorem z55 {m:Mo} {l:List Fc} (hl:l.length=m.uses.length) (j:Nat) (h:j<l.length) (hf:za7 (l[j],m.uses[j]'(by omega))=false):(l.zip m.uses).all za7=false:=by
 have hz:j<(l.zip m.uses).length:=by rw [vdo];omega
 rw [vcw];exact ⟨(l.zip m.uses)[j],vaj _,by rw [vdx];simp [hf]⟩
theorem z0a {m:Mo} {l:List Fc} (hl:l.length=m.uses.length) (h:(l.zip m.uses).all za7=true):∀ f ∈ l,f.items.length<=16:=by
 intro f hf;obtain ⟨j,hj,rfl⟩:=vbl hf
 have hz:j<(l.zip m.uses).length:=by rw [vdo];omega
 have:=vas.1 h _ (vaj hz);rw [vdx] at this;unfold za7 at this;simp only [vac,beq_iff_eq] at this;have hc:=this.1;unfold Fx.zl0 at hc
 by_cases G5:16<l[j].items.length
 . rw [if_pos G5] at hc;cases hc
 . omega
section
variable {P:Program} {ops:Array Oper} {Q:Exit->Act->World->Prop} {md:Region.Mode} {S:World->Prop} {o1:Op} {o2:TypeId} {o3:String} {o4:Array Edge} {o5:Option (Nat × Bool)} {v:Value} {AE:Nat} {Ap:Array Bool} {a:Act} {w:World}
theorem tq (i d:Nat) (hS:S w) (h:wpAnyH P md ops Q S AE (Ap.setIfInBounds i true) (a.put (some d) v) w) (hi:ops[i]? = some (Oper.mk (some d) o1 o2 o3 o4 o5):=by exact rfl)
 (hg:Region.wanted (Oper.mk (some d) o1 o2 o3 o4 o5) (yielded ops a.tmps)=true:=by rfl) (hy:∀ w,S w->(execOp a.eval (Oper.mk (some d) o1 o2 o3 o4 o5)).run P w = .ok (.value v) w:=by (intro w hSw;(try dsimp only at hSw);go_simp;(try with_reducible rfl)))
 (hb:(Region.noSelect ops&&(Region.free md ops Ap i&&(Region.ready md ops Ap).contains i))=true:=by kernel_rfl)
 (hQ:∀ c a w,Q (.panic c) (a.put (some d) v) w->Q (.panic c) a w:=by exact fun _ _ _ h=>h):wpAnyH P md ops Q S (AE+1) Ap a w:=by
 simp only [vac] at hb;exact wpAnyH_take hi hb.1 hb.2.1 hb.2.2 hQ (Or.inl ⟨hg,hy⟩) hS h
theorem tu (i d:Nat) (hS:S w) (h:wpAnyH P md ops Q S AE (Ap.setIfInBounds i true) (a.put (some d) undef) w) (hi:ops[i]? = some (Oper.mk (some d) o1 o2 o3 o4 o5):=by exact rfl)
 (hg:Region.wanted (Oper.mk (some d) o1 o2 o3 o4 o5) (yielded ops a.tmps)=false:=by rfl)
 (hb:(Region.noSelect ops&&(Region.free md ops Ap i&&(Region.ready md ops Ap).contains i))=true:=by kernel_rfl)
 (hQ:∀ c a w,Q (.panic c) (a.put (some d) undef) w->Q (.panic c) a w:=by exact fun _ _ _ h=>h):wpAnyH P md ops Q S (AE+1) Ap a w:=by
 simp only [vac] at hb;exact wpAnyH_take hi hb.1 hb.2.1 hb.2.2 hQ (Or.inr ⟨hg,rfl⟩) hS h
end
theorem znw (a b:ByteArray):(a.toList == b.toList)=decide (a=b):=by
 rw [vcj];simp only [beq_iff_eq,decide_eq_true_eq]
 constructor
 . intro h
   rw [vax,vax] at h;exact zli h
 . rintro rfl;rfl
theorem zte (f:Fc) (h:Fx.zl0 f≠0):Fx.zl0 f=1\/Fx.zl0 f=2:=by
 unfold Fx.zl0 at h ⊢;split
 . exact Or.inr rfl
 . rename_i h1
   rw [if_neg h1] at h;split
   . rename_i h2;rw [if_pos h2] at h;exact absurd rfl h
   . exact Or.inl rfl
theorem fits_cells {w W:World} {x0 x1 v1 z:Value} {t:TypeId} {b bu o:Nat} (hW:Below (w.alloc (.cells #[x0,x1] t)).heap.size (w.alloc (.cells #[x0,x1] t)) W) (h1:w.cell? (qa b 1)=some v1) (hb:b<w.heap.size) (h2:w.cell? (qa bu o)=some z) (G2:bu<w.heap.size) :
 W.cell? (qa w.heap.size 0)=some x0/\W.cell? (qa w.heap.size 1)=some x1/\W.cell? (qa b 1)=some v1/\W.cell? (qa bu o)=some z:=by
 obtain ⟨k0,k1,_⟩:=zcl ((hW.block w.heap.size (by simp)).trans (heap_newP w _));exact ⟨k0,k1,(hW.cell (p:=(qa b 1)) (by show b<_;simp;omega)).trans (((al1 w _).cell (p:=(qa b 1)) hb).trans h1),(hW.cell (p:=(qa bu o)) (by show bu<_;simp;omega)).trans (((al1 w _).cell (p:=(qa bu o)) G2).trans h2)⟩
theorem ztf (m:Mo) (v:Value) (a1:OA) (c1:Nat) (a2:OA) (c2:Nat) (a3:OA) (c3:Nat) (a4:OA) (c4:Nat) (l:List Fc) (al:OA) (cl:Nat) (w:World) (hM:MoAt w Tt m v a1 c1 a2 c2 a3 c3 a4 c4) (hF:DAt w Tt al l.length (z50 l)) :
 qc 21 #[v,.slice al l.length cl] w fun e w'=>zz8 w.heap.size (zee m l) e w'/\qb w w':=by
 obtain rfl:=hM.val;have HM:=hid hM;have Ku:=hid hF;have BJ:=hF.bound;have G2:=hM.uses.bound;have HC:=hid (zge m _ a1 c1 a2 c2 a3 c3 a4 c4 ((w.alloc (kzG m.name a1 m.uses.length c1 a2 m.decls.length c2 a3 m.procs.length c3 a4 m.main.length c4)).alloc (kzC ⟨#[]⟩ none 0 0 0 none 0 0 none 0 0)) (hM.later (bl2 _ _ _)));clear hM hF
 obtain ⟨r,hr⟩:∃ r,r=zee m l:=⟨_,rfl⟩
 rw [← hr];have G8:=hid hr;clear hr;go_enter Tryz.func21,Tryz.ntmps21;go_wp2_with fail;refine HC.out.mono ?_;rintro e w1 ⟨rfl,A6⟩;have A7:=hid (thenB (bl2 w _ _) A6);have An:=A6.size;simp at An;have P0:=hid ((A6.block w.heap.size (by simp;omega)).trans (zab (heap_newP w _)));have P1:Hid (w1.heap[w.heap.size+1]? = some (kzC ⟨#[]⟩ none 0 0 0 none 0 0 none 0 0)):=(A6.block (w.heap.size+1) (by simp)).trans (by simpa using heap_newP (w.alloc _) _);obtain ⟨x0,x1,x2,x3,x4,xf⟩:=zaa P0.out;obtain ⟨r0,r1,r2,r3,r4,rf⟩:=zaa P1.out;have GY:=lt_of_heap P0.out;have EV:=lt_of_heap P1.out;clear A6 HC
 by_cases hc:chkM m=0
 case neg=>
  have HR:Hid (r = .error (chkM m)):=G8.out.trans (if_pos hc);go_wp2_with fail;refine bodyPost_ret (v:=.tuple #[.agg #[.string ⟨#[]⟩,qs,qi 0,qs,qs],qi (chkM m)]) (by simp [results,Tryz.results21,go_sem,r0,r1,r2,r3,r4,EV]) rfl ⟨by rw [HR.out];exact ⟨rfl,hc⟩,?_⟩;exact zdx A7.out (by omega) _ _ _ _ _
 have B3:Hid (r=if l.length≠m.uses.length then .error 8 else if (l.zip m.uses).all za7 then zjo m l else .error 1):=G8.out.trans (if_neg (by simp [hc]));have HZ:=hid hc;rw [hc];clear hc G8
 by_cases Ah:l.length=m.uses.length
 case neg=>
  have HR:Hid (r = .error 8):=B3.out.trans (if_pos Ah)
  have Jf:¬ ((l.length:Int)=m.uses.length):=by omega
  go_wp2_with fail;refine bodyPost_ret (v:=.tuple #[.agg #[.string ⟨#[]⟩,qs,qi 0,qs,qs],qi 8]) (by simp [results,Tryz.results21,go_sem,r0,r1,r2,r3,r4,EV]) rfl ⟨by rw [HR.out];exact ⟨rfl,by decide⟩,?_⟩;exact zdx A7.out (by omega) _ _ _ _ _
 have Ao:Hid (r=if (l.zip m.uses).all za7 then zjo m l else .error 1):=B3.out.trans (if_neg (by simp [Ah]));have EE:=hid Ah;have KF:=(zfb (zpd HZ.out)).1
 have Qz:(l.length:Int)=(m.uses.length:Int):=by omega
 clear B3 Ah;go_wp2_with fail;clear Qz
 go_loopw [7,8,24] (fun _ _ i wr=>∃ j:Nat,j<=l.length/\i=qi j/\((l.zip m.uses).take j).all za7=true/\qb w1 wr) (fun _ _ i _=>l.length - (intOf i).toNat)
 case atStart=>exact ⟨0,vag _,rfl,rfl,Below.refl _ _⟩
 case round=>
  obtain ⟨j,hj,rfl,A8,Ei⟩:=hrel;have PO:=hid A8;have HB:=hid Ei;have Cd:=Ei.size;have BV:=hid (thenB A7.out Ei);have R0:=hid ((Ei.block _ GY).trans P0.out);have R1:=hid ((Ei.block _ EV).trans P1.out);clear A8 Ei x0 x1 x2 x3 x4 xf r0 r1 r2 r3 r4 rf;obtain ⟨x0,x1,x2,x3,x4,xf⟩:=zaa R0.out;obtain ⟨r0,r1,r2,r3,r4,rf⟩:=zaa R1.out;have LW:=lt_of_heap R0.out;have LY:=lt_of_heap R1.out
  by_cases A4:j<l.length
  . have Ou:j<m.uses.length:=by have:=EE.out;omega
    obtain ⟨b,off,aj,cj,rfl,Au,y0,y1,B6,hdj⟩:=(Ku.out.later BV.out).fc j A4;obtain ⟨bu,ou,rfl,Mu,z0,hzm⟩:=(HM.out.uses.later BV.out).str j Ou;obtain ⟨DI,HFj⟩:=zll hdj;have SW:=hdj.bound;have BR:=hid (z3d EE.out j A4);have Gb:=hid (z55 EE.out j A4)
    have IF:(j:Int)<m.uses.length:=by omega
    generalize l[j]=f at *;generalize m.uses[j]'Ou=u at *;have Fp:=hid (fun W (hW:qb wr W)=>Fx.zmk f aj cj W (DI.later hW) (by omega) B6 HFj);have HS:=hid (fun W (hW:Below (wr.alloc (.cells #[.string f.name,.slice aj f.items.length cj] 30)).heap.size (wr.alloc (.cells #[.string f.name,.slice aj f.items.length cj] 30)) W)=>(fits_cells hW x1 LW z0 Mu:W.cell? (qa wr.heap.size 0)=some (.string f.name)/\W.cell? (qa wr.heap.size 1)=some (.slice aj f.items.length cj)/\W.cell? (qa w.heap.size 1)=some (.slice (some (qa bu ou)) m.uses.length c1)/\W.cell? ⟨bu,ou+j,none⟩=some (.string u)));have FF:=hid (HS.out _ (bdrew _));clear hdj DI HFj
    by_cases FH:Fx.zl0 f=0
    . cases KH:decide (f.name=u) with
      | true=>
        have IU:Hid (za7 (f,u)=true):=by show za7 (f,u)=true;unfold za7;simp only [FH,KH];rfl
        have F8:Hid (((l.zip m.uses).take (j+1)).all za7=true):=BR.out.trans (by rw [PO.out,IU.out];rfl);rw [FH] at Fp;have CP:(f.name.toList == u.toList)=true:=(znw _ _).trans KH;clear BR Gb FH;go_wp2_with fail
        go_region_held (fun W=>W.cell? (qa wr.heap.size 0)=some (.string f.name)/\W.cell? (qa wr.heap.size 1)=some (.slice aj f.items.length cj)/\W.cell? (qa w.heap.size 1)=some (.slice (some (qa bu ou)) m.uses.length c1)/\W.cell? ⟨bu,ou+j,none⟩=some (.string u)) (exact FF.out)
         (first | (go_at_call 19;refine (Fp.out _ (zbe wr _)).mono ?_;rintro e w3 ⟨rfl,A9⟩;have Ae:=hid (thenB (bdrew (wr.alloc (.cells #[.string f.name,.slice aj f.items.length cj] 30))) A9);have FF:=hid (HS.out _ Ae.out);clear A9))
        have E8:=hid (thenB (thenB BV.out (al1 wr (.cells #[.string f.name,.slice aj f.items.length cj] 30))) Ae.out);have Bz:=Ae.out.size;simp at Bz;have v1:=(Ae.out.block _ (by simp;omega)).trans (zab (o:=(.cells #[.string f.name,.slice aj f.items.length cj] 30)) R1.out);clear r0 r1 r2 r3 r4 rf;obtain ⟨r0,r1,r2,r3,r4,rf⟩:=zaa v1;have Ef:=lt_of_heap v1;clear v1;go_wp2_with fail;go_roundw
        case rel=>exact ⟨j+1,by omega,by go_num,F8.out,thenB (thenB HB.out (al1 wr _)) Ae.out⟩
        case measure=>simp [intOf];omega
      | false=>
        have IU:Hid (za7 (f,u)=false):=by show za7 (f,u)=false;unfold za7;simp only [KH,Bool.and_false]
        rw [FH] at Fp;have CP:(f.name.toList == u.toList)=false:=(znw _ _).trans KH;clear BR FH;have HR:Hid (r = .error 1):=Ao.out.trans (if_neg (by rw [Gb.out IU.out];decide));go_wp2_with fail
        go_region_held (fun W=>W.cell? (qa wr.heap.size 0)=some (.string f.name)/\W.cell? (qa wr.heap.size 1)=some (.slice aj f.items.length cj)/\W.cell? (qa w.heap.size 1)=some (.slice (some (qa bu ou)) m.uses.length c1)/\W.cell? ⟨bu,ou+j,none⟩=some (.string u)) (exact FF.out)
         (first | (go_at_call 19;refine (Fp.out _ (zbe wr _)).mono ?_;rintro e w3 ⟨rfl,A9⟩;have Ae:=hid (thenB (bdrew (wr.alloc (.cells #[.string f.name,.slice aj f.items.length cj] 30))) A9);have FF:=hid (HS.out _ Ae.out);clear A9))
        have E8:=hid (thenB (thenB BV.out (al1 wr (.cells #[.string f.name,.slice aj f.items.length cj] 30))) Ae.out);have Bz:=Ae.out.size;simp at Bz;have v1:=(Ae.out.block _ (by simp;omega)).trans (zab (o:=(.cells #[.string f.name,.slice aj f.items.length cj] 30)) R1.out);clear r0 r1 r2 r3 r4 rf;obtain ⟨r0,r1,r2,r3,r4,rf⟩:=zaa v1;have Ef:=lt_of_heap v1;clear v1;go_wp2_with fail;refine bodyPost_ret (v:=.tuple #[.agg #[.string ⟨#[]⟩,qs,qi 0,qs,qs],qi 1]) (by simp [results,Tryz.results21,go_sem,r0,r1,r2,r3,r4,Ef]) rfl ⟨by rw [HR.out];exact ⟨rfl,by decide⟩,?_⟩;exact zdx E8.out (by omega) _ _ _ _ _
    . have IU:Hid (za7 (f,u)=false):=by show za7 (f,u)=false;unfold za7;simp only [beq_eq_false_iff_ne.2 FH,vec]
      clear BR
      rcases zte f FH with Bf | BW
      . rw [Bf] at Fp
        clear FH Bf;have HR:Hid (r = .error 1):=Ao.out.trans (if_neg (by rw [Gb.out IU.out];decide));go_wp2_with fail;refine wp_region_held_drew (S:=(fun W=>W.cell? (qa wr.heap.size 0)=some (.string f.name)/\W.cell? (qa wr.heap.size 1)=some (.slice aj f.items.length cj)/\W.cell? (qa w.heap.size 1)=some (.slice (some (qa bu ou)) m.uses.length c1)/\W.cell? ⟨bu,ou+j,none⟩=some (.string u))) (by kernel_rfl) FF.out (fun A0=>?_);refine tq 0 29 A0 ?_
        (try simp only [Act.put,vad,van,vap])
        refine wpAnyH_ready (rs:=[1]) (by kernel_rfl) (by simp) ?_;refine AllReadyH.cons rfl (fun K hK=>?_) AllReadyH.nil;go_simp
        go_wp2_with (go_at_call 19;refine (Fp.out _ (zbe wr _)).mono ?_;rintro e w3 ⟨rfl,A9⟩)
        have Ae:=hid (thenB (bdrew (wr.alloc (.cells #[.string f.name,.slice aj f.items.length cj] 30))) A9);clear A9;refine hK.out _ _ (HS.out _ Ae.out) (fun A0=>?_);clear hK K;refine tq 2 31 A0 ?_
        (try simp only [Act.put,vad,van,vap])
        refine tq 3 32 A0 ?_
        (try simp only [Act.put,vad,van,vap])
        refine tu 4 33 A0 ?_
        (try simp only [Act.put,vad,van,vap])
        refine tu 5 34 A0 ?_
        (try simp only [Act.put,vad,van,vap])
        refine tu 6 35 A0 ?_
        (try simp only [Act.put,vad,van,vap])
        refine tu 7 36 A0 ?_
        (try simp only [Act.put,vad,van,vap])
        refine tu 8 37 A0 ?_
        (try simp only [Act.put,vad,van,vap])
        refine tu 9 38 A0 ?_
        (try simp only [Act.put,vad,van,vap])
        refine tu 10 39 A0 ?_
        (try simp only [Act.put,vad,van,vap])
        refine tu 11 40 A0 ?_
        (try simp only [Act.put,vad,van,vap])
        refine tq 12 41 A0 ?_
        (try simp only [Act.put,vad,van,vap])
        refine wpAnyH_done (by kernel_rfl) ?_ _;have E8:=hid (thenB (thenB BV.out (al1 wr (.cells #[.string f.name,.slice aj f.items.length cj] 30))) Ae.out);have Bz:=Ae.out.size;simp at Bz;have v1:=(Ae.out.block _ (by simp;omega)).trans (zab (o:=(.cells #[.string f.name,.slice aj f.items.length cj] 30)) R1.out);clear r0 r1 r2 r3 r4 rf;obtain ⟨r0,r1,r2,r3,r4,rf⟩:=zaa v1;have Ef:=lt_of_heap v1;clear v1;go_wp2_with fail;refine bodyPost_ret (v:=.tuple #[.agg #[.string ⟨#[]⟩,qs,qi 0,qs,qs],qi 1]) (by simp [results,Tryz.results21,go_sem,r0,r1,r2,r3,r4,Ef]) rfl ⟨by rw [HR.out];exact ⟨rfl,by decide⟩,?_⟩;exact zdx E8.out (by omega) _ _ _ _ _
      . rw [BW] at Fp
        clear FH BW;have HR:Hid (r = .error 1):=Ao.out.trans (if_neg (by rw [Gb.out IU.out];decide));go_wp2_with fail;refine wp_region_held_drew (S:=(fun W=>W.cell? (qa wr.heap.size 0)=some (.string f.name)/\W.cell? (qa wr.heap.size 1)=some (.slice aj f.items.length cj)/\W.cell? (qa w.heap.size 1)=some (.slice (some (qa bu ou)) m.uses.length c1)/\W.cell? ⟨bu,ou+j,none⟩=some (.string u))) (by kernel_rfl) FF.out (fun A0=>?_);refine tq 0 29 A0 ?_
        (try simp only [Act.put,vad,van,vap])
        refine wpAnyH_ready (rs:=[1]) (by kernel_rfl) (by simp) ?_;refine AllReadyH.cons rfl (fun K hK=>?_) AllReadyH.nil;go_simp
        go_wp2_with (go_at_call 19;refine (Fp.out _ (zbe wr _)).mono ?_;rintro e w3 ⟨rfl,A9⟩)
        have Ae:=hid (thenB (bdrew (wr.alloc (.cells #[.string f.name,.slice aj f.items.length cj] 30))) A9);clear A9;refine hK.out _ _ (HS.out _ Ae.out) (fun A0=>?_);clear hK K;refine tq 2 31 A0 ?_
        (try simp only [Act.put,vad,van,vap])
        refine tq 3 32 A0 ?_
        (try simp only [Act.put,vad,van,vap])
        refine tu 4 33 A0 ?_
        (try simp only [Act.put,vad,van,vap])
        refine tu 5 34 A0 ?_
        (try simp only [Act.put,vad,van,vap])
        refine tu 6 35 A0 ?_
        (try simp only [Act.put,vad,van,vap])
        refine tu 7 36 A0 ?_
        (try simp only [Act.put,vad,van,vap])
        refine tu 8 37 A0 ?_
        (try simp only [Act.put,vad,van,vap])
        refine tu 9 38 A0 ?_
        (try simp only [Act.put,vad,van,vap])
        refine tu 10 39 A0 ?_
        (try simp only [Act.put,vad,van,vap])
        refine tu 11 40 A0 ?_
        (try simp only [Act.put,vad,van,vap])
        refine tq 12 41 A0 ?_
        (try simp only [Act.put,vad,van,vap])
        refine wpAnyH_done (by kernel_rfl) ?_ _;have E8:=hid (thenB (thenB BV.out (al1 wr (.cells #[.string f.name,.slice aj f.items.length cj] 30))) Ae.out);have Bz:=Ae.out.size;simp at Bz;have v1:=(Ae.out.block _ (by simp;omega)).trans (zab (o:=(.cells #[.string f.name,.slice aj f.items.length cj] 30)) R1.out);clear r0 r1 r2 r3 r4 rf;obtain ⟨r0,r1,r2,r3,r4,rf⟩:=zaa v1;have Ef:=lt_of_heap v1;clear v1;go_wp2_with fail;refine bodyPost_ret (v:=.tuple #[.agg #[.string ⟨#[]⟩,qs,qi 0,qs,qs],qi 1]) (by simp [results,Tryz.results21,go_sem,r0,r1,r2,r3,r4,Ef]) rfl ⟨by rw [HR.out];exact ⟨rfl,by decide⟩,?_⟩;exact zdx E8.out (by omega) _ _ _ _ _
  . obtain rfl:j=l.length:=by omega
    have Oi:¬ (l.length<m.uses.length):=by have:=EE.out;omega
    have PP:Hid ((l.zip m.uses).all za7=true):=by have:=PO.out;rw [vaw (by rw [vdo];omega)] at this;exact this
    have HR:Hid (r=zjo m l):=Ao.out.trans (if_pos PP.out);have BU:=hid (z3c m _ a1 c1 a2 c2 a3 c3 a4 c4 l al cl wr (HM.out.later BV.out) (zpd HZ.out) (Ku.out.later BV.out) (by have:=EE.out;omega) (z0a EE.out PP.out));go_wp2_with fail;refine BU.out.mono ?_;rintro e w5 ⟨Ai,As⟩;have Av:=hid (thenB BV.out As);have C4:=As.size;have v1:=(As.block _ LY).trans R1.out;clear r0 r1 r2 r3 r4 rf;obtain ⟨r0,r1,r2,r3,r4,rf⟩:=zaa v1;have Jj:=lt_of_heap v1;clear As v1 BU
    cases hq:zjo m l with
    | error c=>
      rw [hq] at Ai;obtain ⟨rfl,Ak⟩:=Ai;have N5:Hid (r = .error c):=HR.out.trans hq;clear hq;go_wp2_with fail;refine bodyPost_ret (v:=.tuple #[.agg #[.string ⟨#[]⟩,qs,qi 0,qs,qs],qi c]) (by simp [results,Tryz.results21,go_sem,r0,r1,r2,r3,r4,Jj]) rfl ⟨by rw [N5.out];exact ⟨rfl,Ak⟩,?_⟩;exact zdx Av.out (by omega) _ _ _ _ _
    | ok q=>
      rw [hq] at Ai;obtain ⟨g1,k1,g2,k2,g3,k3,rfl,he1,F2,he3⟩:=Ai;have N5:Hid (r = .ok q):=HR.out.trans hq
      have Fh:Hid (∀ v0 v1 v2 v3 v4,zad w5 (wr.heap.size<=·) (set5 w5 (w.heap.size+1) v0 v1 v2 v3 v4) (w.heap.size<=·)):=fun v0 v1 v2 v3 v4=>
       ((zad.refl w5 (wr.heap.size<=·)).set5 (b:=w.heap.size+1) (fun b _ hb=>by have:wr.heap.size<=b:=hb;omega) v0 v1 v2 v3 v4).trans ⟨vaa _,fun b _ h=>⟨by have:wr.heap.size<=b:=h;show w.heap.size<=b;omega,rfl⟩⟩
      have BO:=hid he1;have FK:=hid F2;have IV:=hid he3;clear hq he1 F2 he3;go_wp2_with fail;refine bodyPost_ret (v:=.tuple #[.agg #[.string q.name,.slice g1 q.uses.length k1,qi q.data,.slice g2 q.parts.length k2,.slice g3 q.main.length k3],qi 0]) (by simp [results,Tryz.results21,go_sem,r0,r1,r2,r3,r4,Jj]) rfl ⟨?_,?_⟩
      . rw [N5.out]
        exact ⟨g1,k1,g2,k2,g3,k3,rfl,BO.out.moves (Fh.out _ _ _ _ _),FK.out.moves (Fh.out _ _ _ _ _),IV.out.moves (Fh.out _ _ _ _ _)⟩
      . exact zdx Av.out (by omega) _ _ _ _ _
end Go.Proofs.YtndkhgakfodldaaGreatDoor

namespace Go.Proofs.YtndkhgakfodldaaGreatDoor
open Go.RowKit
set_option linter.unusedSimpArgs false
set_option linter.unusedVariables false
theorem z0b {n:Int} (h1 : -1000000000000000<=n) (h2:n<=1000000000000000):(Lit.int .i64 n).wf=true:=by
 simp only [Lit.wf,vac,decide_eq_true_eq];exact ⟨by show (-9223372036854775808:Int)<=n;omega,by show n<=(9223372036854775807:Int);omega⟩
end Go.Proofs.YtndkhgakfodldaaGreatDoor

namespace Go.Proofs.YtndkhgakfodldaaGreatDoor
set_option maxRecDepth 100000
set_option maxHeartbeats 800000
open Go.RowKit Go.Maps Go.WideMaps
set_option linter.unusedSimpArgs false
set_option linter.unusedVariables false
theorem zpi {W:World} {base:Nat} {t:TypeId} {sz:Nat} {a:OA} {n cap:Nat} {xs:List Value} {ds:List D} (h:W.ownsRow base t sz (.slice a n cap) n xs) (hx:zap W Tt ds xs) (h1:n<=ds.length) (h2:ds.length<=17592186044416):DAt W Tt a n ds:=by
 refine ⟨h1,h2,?_⟩
 rcases h.2 with ⟨e,h0⟩ | ⟨g,cap',AC,e,_,hg,_⟩
 . exact Or.inl h0
 . cases e
   refine Or.inr ⟨g,0,xs,rfl,trivial,lt_of_heap hg,fun j u hj=>?_,hx⟩;have:=h.cells (g:=g) rfl j u hj;rw [show ((qa g 0):Addr).add j=(qa g j) from by unfold Addr.add;split<;>simp_all] at this
   rw [vba];exact this
def zfd (n:Int):Prop:=-1000000000000000<=n/\n<=1000000000000000
theorem zlo {W:World} {n:Int} (h:zfd n):zc7 W Tt (.int n) (qi n):=zdl (z0b h.1 h.2)
theorem zvf {W:World}:∀ (l:List Gi),(∀ i ∈ l,zfd i.op/\zfd i.a/\zfd i.b)->zap W Tt (zv5 l) (zen l)
 | [],_=>zap.nil
 | i :: r,h=>by
   have h1:=h i (var ..);simp only [zv5,zen,vbf];exact zap.append (.cons (zlo h1.1) (.cons (zlo h1.2.1) (.cons (zlo h1.2.2) .nil))) (zvf r (fun j hj=>h j (vai _ hj)))
theorem zvg {W:World}:∀ (l:List Gf),(∀ i ∈ l,zfd i.at_/\zfd i.kind/\zfd i.m)->zap W Tt (z1u l) (z3l l)
 | [],_=>zap.nil
 | i :: r,h=>by
   have h1:=h i (var ..);simp only [z1u,z3l,vbf];exact zap.append (.cons (zlo h1.1) (.cons (zlo h1.2.1) (.cons (zlo h1.2.2) .nil))) (zvg r (fun j hj=>h j (vai _ hj)))
theorem zre {W:World}:∀ (l:List Int),(∀ i ∈ l,zfd i)->zap W Tt (zfy l) (intV l)
 | [],_=>zap.nil
 | i :: r,h=>.cons (zlo (h i (var ..))) (zre r (fun j hj=>h j (vai _ hj)))
theorem zrf {W:World}:∀ (l:List ByteArray),(∀ s ∈ l,s.size<=maxLen)->zap W Tt (zaj l) (strV l)
 | [],_=>zap.nil
 | i :: r,h=>.cons (zeu (h i (var ..))) (zrf r (fun j hj=>h j (vai _ hj)))
theorem zvh (l:List Gi):(zv5 l).length=l.length*3:=by
 induction l with
 | nil=>rfl
 | cons x r ih=>simp only [zv5,vbf,vam,vav] at ih ⊢;rw [ih];simp [Gi.ds];omega
theorem zvi (l:List Gf):(z1u l).length=l.length*3:=by
 induction l with
 | nil=>rfl
 | cons x r ih=>simp only [z1u,vbf,vam,vav] at ih ⊢;rw [ih];simp [Gf.ds];omega
theorem z4b (N:Int):∀ (e:List Gf) (lo:Int),lo<=N->e.Pairwise (fun f g=>f.at_<g.at_)->(∀ f ∈ e,lo<=f.at_/\f.at_<N)->(e.length:Int)<=N - lo
 | [],lo,h,_,_=>by simp;omega
 | f :: r,lo,h,hp,hb=>by
   rw [List.pairwise_cons] at hp;have h1:=hb f (var ..);have:=z4b N r (f.at_+1) (by omega) hp.2 (fun g hg=>⟨by have:=hp.1 g hg;omega,(hb g (vai _ hg)).2⟩);rw [vav];omega
theorem z56 {u:Un} {o:Ob} (h:zw5 u = .ok o):o=zps u/\ze0 u ziy zig=true/\Go.Lib.containsS u.uses u.name=false/\zhh (genS u)=false:=by
 unfold zw5 at h
 split at h
 . cases h
 . rename_i h1
   split at h
   . cases h
   . rename_i h2
     cases h;simp only [vcs,vat] at h1;exact ⟨rfl,by simpa using h1.2,h1.1,by simpa using h2⟩
theorem z0c {u:Un} (h:ze0 u ziy zig=true):(∀ i ∈ (genS u).code,zfd i.op/\zfd i.a/\zfd i.b)/\(∀ f ∈ (genS u).fixes,zfd f.at_/\zfd f.kind/\zfd f.m)/\(∀ x ∈ entsW u.parts,zfd x)/\zfd ((zb1 u.parts).code.length:Int)/\(genS u).fixes.length<=33000:=by
 obtain ⟨ha,_,hl,hs⟩:=z1w h;have hb:=zty h;have h3:=zin (zb0 h).2.2;obtain ⟨e,he,hp,hr⟩:=ha.fx
 have FZ:(genS u).fixes=e:=by rw [he];rfl
 subst FZ;refine ⟨fun i hi=>?_,fun f hf=>?_,fun x hx=>?_,by unfold zfd;omega,?_⟩
 . obtain ⟨k,hk,rfl⟩:=vbl hi
   have:=ha.ins k _ (vag _) (vae hk);unfold inR at this;unfold zfd;omega
 . obtain ⟨k,i,hi,hk,_,hx⟩:=hr f hf
   have:=zd3 hi;unfold zfd
   rcases hx with ⟨h1,h2,_⟩ | ⟨h1,_,_,h4⟩<;>omega
 . rw [zsp,vch] at hx
   obtain ⟨b,AZ,e⟩:=hx;have:=hs b AZ;unfold zfd;omega
 . have:=z4b ((genS u).code.length:Int) (genS u).fixes 0 (by omega) hp (fun f hf=>by
    obtain ⟨k,i,hi,hk,_,_⟩:=hr f hf;have:=zd3 hi
    omega)
   omega
theorem z57 {W:World} {base:Nat} {t:TypeId} {sz:Nat} {a:OA} {n cap:Nat} {xs:List Value} (h:W.ownsRow base t sz (.slice a n cap) n xs):n<=cap:=by
 obtain ⟨_,_,e,h1,_⟩:=zal h
 cases e
 exact h1
theorem z4c {u:Un} {o:Ob} (hg:zw5 u = .ok o) {x1:OA} {y1:Nat} {x2:OA} {y2:Nat} {x3:OA} {y3:Nat} {w:World} (hU:UvAt w u x1 y1 x2 y2 x3 y3) :
 qc 31 #[.agg #[.string u.name,.slice x1 u.uses.length y1,qi u.data,.slice x2 u.parts.length y2,.slice x3 u.main.length y3]] w fun e w'=>∃ x1 y1 x3 y3 x4 y4 x5 y5,e = .returned (.tuple #[.agg #[.string o.name,.slice x1 o.uses.length y1,qi o.data,.slice x3 o.code.length y3,.slice x4 o.fixes.length y4,.slice x5 o.entries.length y5,qi o.main],qi 0])/\OvAt w' o x1 x3 x4 x5/\o.uses.length<=y1/\qb w w':=
 (z49 u x1 y1 x2 y2 x3 y3 w hU).mono fun e w' ⟨h,hb⟩=>by
   obtain ⟨rfl,hh,hc,hf⟩:=z56 hg;unfold zjf at h;rw [hg] at h;obtain ⟨ua,uc,ca,cc,fa,fc,ea,ec,he,h1,h2,h3,h4⟩:=h;obtain ⟨s1,s2,s3,s4,s5⟩:=z0c hh;have hd:=ziv (zb0 hh).2.2;have hu:=zin (zb0 hh).2.2;have h6:=zid (zb0 hh).2.2;have F1:(zps u).entries.length=u.parts.length:=zdp ..;have Du:=zty hh;refine ⟨ua,uc,ca,cc,fa,fc,ea,ec,he,⟨hU.wn,?_,z0b (by show _<=u.data;omega) (by show u.data<=_;omega),?_,?_,?_,z0b s4.1 s4.2⟩,z57 h1,hb⟩
   . exact zpi h1 (zrf _ (zel hU.uses).2) (by simp [zaj]) (by show (zaj u.uses).length<=_;simp [zaj];omega)
   . exact zpi h2 (zvf _ s1) (by rw [zvh];omega) (by rw [zvh];show (genS u).code.length*3<=_;omega)
   . exact zpi h3 (zvg _ s2) (by rw [zvi];omega) (by rw [zvi];show (genS u).fixes.length*3<=_;omega)
   . exact zpi h4 (zre _ s3) (by simp [zfy]) (by rw [show (zfy (zps u).entries).length=(zps u).entries.length from by simp [zfy],F1];omega)
end Go.Proofs.YtndkhgakfodldaaGreatDoor

namespace Go.Proofs.YtndkhgakfodldaaGreatDoor
set_option maxRecDepth 100000
set_option maxHeartbeats 6400000
open Go.RowKit Go.Shelf
set_option linter.unusedSimpArgs false
set_option linter.unusedVariables false
section
variable {P:Program} {ops:Array Oper} {o:Oper} {a:Act} {w:World} {K:Act->World->Prop} {Q:Exit->Act->World->Prop} {E:Prop}
theorem run_callN (f:FuncId) (xs:Array Operand) (FM:Array TypeId) (ho:o.op = .call { callee:=.value (.func f),args:=xs,argTypes:=FM })
 (C7:Enters P f) (vs:Array Value) (hx:xs.map a.eval=vs):(execOp a.eval o).run P w = .ok (.enter f vs) w:=by
 have h:=C7 vs w;have hf:a.eval (.func f) = .func (.func f) #[] #[]:=rfl;simp [execOp,ho,resolve,invoke,hx,hf,h,Deferred.ofValue]
end
set_option maxHeartbeats 1600000
set_option maxHeartbeats 6400000
theorem DAt.lower {w:World} {a:OA} {n:Nat} {ds:List D} (h:DAt w Tt a n ds):DAt w (·<w.heap.size) a n ds:=h.moves ⟨vaa _,fun b hb _=>⟨hb,rfl⟩⟩
end Go.Proofs.YtndkhgakfodldaaGreatDoor
