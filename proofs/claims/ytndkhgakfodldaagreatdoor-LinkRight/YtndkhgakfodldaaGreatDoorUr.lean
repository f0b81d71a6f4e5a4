import Derived.Deep.DeepCutAuto
import Derived.Test.YtndkhgakfodldaaGreatDoorNo
namespace Go.Proofs.YtndkhgakfodldaaGreatDoor
set_option maxRecDepth 100000
set_option maxHeartbeats 8000000
open Go.RowKit Go.Maps Go.WideMaps
set_option linter.unusedSimpArgs false
theorem zjp {ops:Array Oper} {o:Oper} {a:Act} {K:Act->World->Prop} {Q:Exit->Act->World->Prop} {E:Prop} {w:World} (BA:o.guard=none) (s x:Operand)
 (ho:o.op = .call { callee:=.builtin .append,args:=#[s,x],argTypes:=#[22,22] }) (us:List ByteArray) (b:OA) (c:Nat) (hs:a.eval s=qs) (hx:a.eval x = .slice b us.length c) (hS:Fx.zfe w b us) (Ah:us.length<=10000)
 (h:∀ v' w',w'.ownsRow w.heap.size 9 1 v' us.length (strV us)->qb w w'->K (a.put o.dst v') w') :
 if Region.wanted o (yielded ops a.tmps)=true then Oper.wp Tryz.prog o a w K Q else E:=by
 have hw:Region.wanted o (yielded ops a.tmps)=true:=by simp [Region.wanted,BA]
 rw [if_pos hw];obtain ⟨v',w',hr,h2,h3⟩:=zdb w.heap.size o.type (qs) 0 [] (vek _ _ _ _) us b c hS (by omega) (vaa _);refine Lib.wp_append_run w s x _ _ ho _ _ hs hx v' w' hr (h v' w' (by simpa using h2) ?_);exact (Below.refl w.heap.size w).grown h3 (vaa _) (fun k hk=>by simp [Value.ownBlock] at hk)
theorem Tryz.infoPart:(Tryz.prog.info? 106).map (fun i=>(i.zero,i.size,i.bytes))=some (some (.agg #[qi 0,qi 0,qs]),3,40):=by kernel_rfl
theorem z3a {A:Nat->Prop} {t:Pt} {w:World} {a:OA} {cap:Nat} (h:EAt w A a t.body.length (zdm t.body)):zau w A t.ds [qi t.params,qi t.locals,.slice a t.body.length cap]:=.cons zpw (.cons zpw (.cons h.val .nil))
theorem zz9 (l:List Pt) (x:Pt):zk7 (l++[x])=zk7 l++x.ds:=by simp [zk7]
theorem zve {w:World} {b:Nat} {x0 x1 x2 x3 x4:Value} {t:TypeId} (h:w.heap[b]? = some (.cells #[x0,x1,x2,x3,x4] t (0,0))):w.cell? (qa b 0)=some x0/\w.cell? (qa b 1)=some x1/\w.cell? (qa b 2)=some x2/\w.cell? (qa b 3)=some x3/\w.cell? (qa b 4)=some x4/\(∀ i,w.frozen? (qa b i)=false)/\b<w.heap.size:=by
 obtain ⟨h0,h1,h2,h3,h4,h5⟩:=zaa h;exact ⟨h0,h1,h2,h3,h4,h5,lt_of_heap h⟩
theorem zln {W:World} {b:Nat} {x0 x1:Value} (hb:b<W.heap.size) (h:W.cell? (qa b 0)=some x0/\W.cell? (qa b 1)=some x1) (o:Obj):(W.alloc o).cell? (qa b 0)=some x0/\(W.alloc o).cell? (qa b 1)=some x1:=
 ⟨((al1 W o).cell (p:=(qa b 0)) hb).trans h.1,((al1 W o).cell (p:=(qa b 1)) hb).trans h.2⟩
theorem zwy {W:World} {b:Nat} {x0 x1:Value} (hb:b<W.heap.size) (h:W.cell? (qa b 0)=some x0/\W.cell? (qa b 1)=some x1) (o:Obj):(W.alloc o).drew.cell? (qa b 0)=some x0/\(W.alloc o).drew.cell? (qa b 1)=some x1:=zln hb h o
theorem z54 {W:World} {b c:Nat} {x0 x1:Value} (hn:b≠c) (h:W.cell? (qa b 0)=some x0/\W.cell? (qa b 1)=some x1) (u0 u1 u2 u3 u4:Value) :
 (((((W.setCell (qa c 0) u0).setCell (qa c 1) u1).setCell (qa c 2) u2).setCell (qa c 3) u3).setCell (qa c 4) u4).cell? (qa b 0)=some x0/\(((((W.setCell (qa c 0) u0).setCell (qa c 1) u1).setCell (qa c 2) u2).setCell (qa c 3) u3).setCell (qa c 4) u4).cell? (qa b 1)=some x1:=by
 have e:(((((W.setCell (qa c 0) u0).setCell (qa c 1) u1).setCell (qa c 2) u2).setCell (qa c 3) u3).setCell (qa c 4) u4).heap[b]? = W.heap[b]?:=(heap_set_ne hn _).trans ((heap_set_ne hn _).trans ((heap_set_ne hn _).trans ((heap_set_ne hn _).trans (heap_set_ne hn _))));exact ⟨(vei (w:=W) (a:=(qa b 0)) e).trans h.1,(vei (w:=W) (a:=(qa b 1)) e).trans h.2⟩
theorem bdrew (w:World):qb w w.drew:=(Below.refl _ _).drew
theorem zbe (w:World) (o:Obj):qb w (w.alloc o).drew:=((Below.refl _ w).alloc (vaa _) o).drew
theorem zwz {w wu:World} {x0 x1 x2 x3 x4:Value} {t:TypeId} (hb:Below (w.alloc (.cells #[x0,x1,x2,x3,x4] t)).drew.heap.size (w.alloc (.cells #[x0,x1,x2,x3,x4] t)).drew wu) :
 wu.cell? (qa w.heap.size 0)=some x0/\wu.cell? (qa w.heap.size 1)=some x1/\wu.cell? (qa w.heap.size 2)=some x2/\wu.cell? (qa w.heap.size 3)=some x3/\wu.cell? (qa w.heap.size 4)=some x4/\(∀ i,wu.frozen? (qa w.heap.size i)=false)/\w.heap.size<wu.heap.size:=by
 have h:wu.heap[w.heap.size]? = some (.cells #[x0,x1,x2,x3,x4] t):=(hb.block w.heap.size (by show w.heap.size<(w.alloc _).heap.size;simp)).trans (heap_newP w _);obtain ⟨h0,h1,h2,h3,h4,h5⟩:=zaa h;exact ⟨h0,h1,h2,h3,h4,h5,lt_of_heap h⟩
theorem znv {A:Nat->Prop} {w:World}:∀ (l:List ByteArray),(∀ s ∈ l,s.size<=maxLen)->zau w A (zaj l) (strV l)
 | [],_=>.nil
 | s :: r,h=>.cons (zw9 (h s (by simp))) (znv r fun x hx=>h x (by simp [hx]))
theorem z3b {w:World} {B:Nat} {v:Value} {l:List ByteArray} (h:w.ownsRow B 9 1 v l.length (strV l)) (hs:∀ s ∈ l,s.size<=maxLen):∀ a cap,v = .slice a l.length cap->EAt w (B<=·) a l.length (zaj l):=by
 rintro a cap rfl;exact EAt.of_own h (fun _ h=>h) (znv l hs)
theorem z3c (m:Mo) (v:Value) (a1:OA) (c1:Nat) (a2:OA) (c2:Nat) (a3:OA) (c3:Nat) (a4:OA) (c4:Nat) (l:List Fc) (al:OA) (cl:Nat) (w:World) (hM:MoAt w Tt m v a1 c1 a2 c2 a3 c3 a4 c4) (he:m.err=0) (hF:DAt w Tt al l.length (z50 l)) (Ci:l.length<=3) (FV:∀ f ∈ l,f.items.length<=16) :
 qc 64 #[v,.slice al l.length cl] w fun e w'=>zz8 w.heap.size (zjo m l) e w'/\qb w w':=by
 obtain rfl:=hM.val;have HM:=hid hM;have Gx:=zz0 he;have MZ:=hid (zfb he);have Kg:=hid hF;have Ld:=hid FV;have HC:=hid (ziu m _ a1 c1 a2 c2 a3 c3 a4 c4 ((w.alloc (kzG m.name a1 m.uses.length c1 a2 m.decls.length c2 a3 m.procs.length c3 a4 m.main.length c4)).alloc (kzC ⟨#[]⟩ none 0 0 0 none 0 0 none 0 0)) (hM.later (bl2 _ _ _)) Gx)
 have Pl:Hid ((za6 m).length<=16):=by have h1:=Gx.decls;have h2:=Gx.procs;show (za6 m).length<=16;rw [zgd];omega
 have Jm:=Gx.decls;have O3:=Gx.procs;clear hM hF FV he Gx;go_enter Tryz.func64,Tryz.ntmps64;go_wp2_with fail;refine HC.out.mono ?_;rintro e w1 ⟨⟨ai,ci,rfl,hit⟩,A6⟩;have A7:=hid (thenB (bl2 w _ _) A6);have An:=A6.size;simp at An;have P0:=hid ((A6.block w.heap.size (by simp;omega)).trans (zab (heap_newP w _)));have P1:Hid (w1.heap[w.heap.size+1]? = some (kzC ⟨#[]⟩ none 0 0 0 none 0 0 none 0 0)):=(A6.block (w.heap.size+1) (by simp)).trans (by simpa using heap_newP (w.alloc _) _);obtain ⟨HI,HF⟩:=zpc hit;have Kc:=hid HI;have Kh:=hid HF;have GN:=@run_makeMap Tryz.prog;have K7:=hid ((zl2.made w1).later (al1 _ (.cells #[.map (some w1.heap.size)] 189)));have RN:=hid (zlm HI (R:=w1.heap.size) (vaa _));have Bn:=hid (zlh (fun _ _=>none) w1.heap.size 0 ⟨#[]⟩ 0 (za6 m) ai ci ((w1.alloc (.map #[] 0)).alloc (.cells #[.map (some w1.heap.size)] 189)) K7.out (vag _) (HI.later (bl2 _ _ _)) HF (by have:=Pl.out;omega) (by omega) RN.out)
 clear A6 hit HI HF HC;go_wp2_with fail;refine Bn.out.mono ?_;rintro e w2 ⟨rfl,hkm,Bf⟩
 have IF:Hid (zl2 w2 w1.heap.size (za6 m).length (z52 m)):=by have:=hkm;rw [vba] at this;exact this
 have HE:=hid Bf;clear hkm Bf Bn GN K7;go_wp2_with fail
 go_loopw [9,10,30] (fun _ _ i wr=>∃ (j n:Nat),j<=l.length/\i=qi j/\n<=16+16*j/\zl2 wr w1.heap.size n (zh8 (z52 m) (l.take j))/\Keeps w1.heap.size ((w1.alloc (.map #[] 0)).alloc (.cells #[.map (some w1.heap.size)] 189)) wr) (fun _ _ i _=>l.length - (intOf i).toNat)
 case atStart=>exact ⟨0,_,vag _,rfl,by have:=Pl.out;omega,IF.out,HE.out⟩
 case round =>
  clear IF HE;obtain ⟨j,n,hj,rfl,hn,hkm,Bf⟩:=hrel;have IF:=hid hkm;have HE:=hid Bf;have C9:=Bf.size;simp at C9;have nb:wr.heap[w1.heap.size+1]? = some (.cells #[.map (some w1.heap.size)] 189):=(Bf.block _ (by simp) (by omega)).trans (by simpa using heap_newP (w1.alloc (.map #[] 0)) (.cells #[.map (some w1.heap.size)] 189));have RA:=hid nb
  have k0:wr.cell? ⟨w1.heap.size+1,0,none⟩=some (.map (some w1.heap.size)):=by rw [vef nb];rfl
  have O6:=lt_of_heap nb;have CW:Hid (qb w wr):=Keeps.below (thenB A7.out (bl2 _ _ _)) HE.out (by omega) (by simp;omega);clear hkm Bf nb
  by_cases A4:j<l.length
  . obtain ⟨b,off,aj,cj,rfl,Au,x0,x1,B5,hdj⟩:=(Kg.out.later CW.out).fc j A4
    obtain ⟨b',C7,aj',cj',DV,hbl0,_,x1',_,hdj0⟩:=Kg.out.fc j A4
    have Oi:aj'=aj:=by
     have e0:=vab DV
     injection e0 with e1 e2
     subst e1 e2;have:=(CW.out.cell (p:=⟨b,off+j*2+1,none⟩) hbl0).trans x1';rw [this] at x1;have:=vab x1;injection this
    subst Oi;obtain ⟨DC,HFj⟩:=zll hdj;have Ok:=zlm (zll hdj0).1 (R:=w1.heap.size) (by omega);have R3:=Ld.out l[j] (vaj _)
    have BP:Hid (ziw (zh8 (z52 m) (l.take j)) l[j].name ((j:Int)+1) l[j].items=zh8 (z52 m) (l.take (j+1))):=by
     show _=zh8 (z52 m) (l.take (j+1));rw [vaf A4,ztc,vcc,vdl (by omega)]
    have IW:IntKind.i64.wrap ((j:Int)+1)=(j:Int)+1:=by simp only [IntKind.wrap,IntKind.bits,IntKind.signed];simp;omega
    clear DV hbl0 x1' hdj hdj0;generalize l[j]=f at *;have BI:=hid (zlh (zh8 (z52 m) (l.take j)) w1.heap.size n f.name ((j:Int)+1) f.items aj' cj (wr.alloc (.cells #[.string f.name,.slice aj' f.items.length cj] 30)) (IF.out.later (al1 _ _)) B5 (DC.later (al1 _ _)) HFj (by omega) (by omega) Ok);clear B5 DC HFj Ok;go_wp2_with fail;refine BI.out.mono ?_;rintro e w3 ⟨rfl,hkm3,hke3⟩;rw [BP.out] at hkm3;have Nb:=hid hkm3;have II:=hid ((HE.out.alloc (.cells #[.string f.name,.slice aj' f.items.length cj] 30)).trans hke3);clear hkm3 hke3 BI;go_wp2_with fail;go_roundw
    case rel=>exact ⟨j+1,n+f.items.length,by omega,by go_num,by omega,Nb.out,II.out⟩
    case measure=>simp [intOf];omega
  . obtain rfl:j=l.length:=by omega
    have RM:Hid (zmg wr (.map (some w1.heap.size)) (zd9 m l)):=by have:=IF.out.known;rw [vau] at this;exact this
    have Q0:Hid (wr.heap[w.heap.size]? = some (kzG m.name a1 m.uses.length c1 a2 m.decls.length c2 a3 m.procs.length c3 a4 m.main.length c4)):=(HE.out.block _ (by simp;omega) (by omega)).trans (zab (zab P0.out));have Q1:Hid (wr.heap[w.heap.size+1]? = some (kzC ⟨#[]⟩ none 0 0 0 none 0 0 none 0 0)):=(HE.out.block _ (by simp;omega) (by omega)).trans (zab (zab P1.out));have Hs:=hid (fun W (hW:qb wr W)=>((zel HM.out.uses).1.later (thenB CW.out hW)));obtain ⟨x0,x1,x2,x3,x4,xf⟩:=zaa Q0.out;have Bm:=lt_of_heap Q0.out;have Ku:=MZ.out.1;have Rq:=hid (zel HM.out.uses).2;have PB:=hid (fun W (hW:qb wr W)=>zve ((hW.block _ Bm).trans Q0.out));clear IF HE k0;go_wp2_with fail
    obtain ⟨wL,hwL⟩:∃ x,x=wr:=⟨_,rfl⟩
    subst hwL
    go_cut [11] (fun v wc=>∃ (U:Nat) (au:OA) (cu:Nat),v=pq U 0/\wL.heap.size<=U/\Hid (qb wL wc)/\Hid (wc.heap[U]? = some (kzC m.name au m.uses.length cu (zb3 m) none 0 0 none 0 0))/\Hid (EAt wc (fun b=>wL.heap.size<=b/\b≠U) au m.uses.length (zaj m.uses)))
    case first=>
     have J4:w.heap.size≠wL.heap.size:=by omega
     have FF0:Hid (wL.cell? (qa w.heap.size 0)=some (.string m.name)/\wL.cell? (qa w.heap.size 1)=some (.slice a1 m.uses.length c1)):=⟨x0,x1⟩
     have FF:Hid (wL.drew.cell? (qa w.heap.size 0)=some (.string m.name)/\wL.drew.cell? (qa w.heap.size 1)=some (.slice a1 m.uses.length c1)):=⟨x0,x1⟩
     go_region_held_law (fun W=>W.cell? (qa w.heap.size 0)=some (.string m.name)/\W.cell? (qa w.heap.size 1)=some (.slice a1 m.uses.length c1)) (first | with_reducible exact FF.out | with_reducible exact zln Fv FF.out _ | with_reducible exact zwy Bm FF0.out _ | with_reducible exact zln Bm FF0.out _ | with_reducible exact z54 J4 FF.out _ _ _ _ _)
      (first | (refine zjp rfl _ _ rfl m.uses a1 c1 rfl rfl (Hs.out _ (by first | exact bdrew wL | exact zbe wL _)) (by omega) ?_;intro vu wu hou FS;have Pv:=hid (z3b hou Rq.out);obtain ⟨au,cu,rfl,_⟩:=zj4 hou;clear hou;(first | (refine And.elim ?_ (zwz FS);intro e0 Bl;obtain ⟨e1,e2,e3,e4,ef,ES⟩:=Bl;refine And.elim ?_ (PB.out wu (thenB (zbe wL _) FS));intro f0 fr;obtain ⟨f1,f2,f3,f4,ff,Fv⟩:=fr;have L9:=hid (thenB (zbe wL _) FS);have FF:=hid (And.intro f0 f1)) | (refine And.elim ?_ (PB.out wu (thenB (bdrew wL) FS));intro f0 fr;obtain ⟨f1,f2,f3,f4,ff,Fv⟩:=fr;have L9:=hid (thenB (bdrew wL) FS);have FF:=hid (And.intro f0 f1)))))
     . have HW:Hid (qb wL (wu.alloc (kzC m.name au m.uses.length cu (zb3 m) none 0 0 none 0 0))):=thenB L9.out (al1 _ _)
       have HU:Hid ((wu.alloc (kzC m.name au m.uses.length cu (zb3 m) none 0 0 none 0 0)).heap[wu.heap.size]? = some (kzC m.name au m.uses.length cu (zb3 m) none 0 0 none 0 0)):=heap_newP _ _;have HA:Hid (EAt (wu.alloc (kzC m.name au m.uses.length cu (zb3 m) none 0 0 none 0 0)) (fun b=>wL.heap.size<=b/\b≠wu.heap.size) au m.uses.length (zaj m.uses)):=(Pv.out au cu rfl).moves ⟨by simp,fun b hb h=>⟨⟨h,by omega⟩,(al1 _ _).block b hb⟩⟩;have hU:wL.heap.size<=wu.heap.size:=L9.out.size;go_wp2_with fail;go_meet;exact ⟨_,au,cu,rfl,hU,HW,HU,HA⟩
     . have HW:Hid (qb wL (((((wu.setCell (qa wL.heap.size 0) (.string m.name)).setCell (qa wL.heap.size 1) (.slice au m.uses.length cu)).setCell (qa wL.heap.size 2) (qi (zb3 m))).setCell (qa wL.heap.size 3) (qs)).setCell (qa wL.heap.size 4) (qs))):=zdx L9.out (vaa _) _ _ _ _ _
       have HU:Hid ((((((wu.setCell (qa wL.heap.size 0) (.string m.name)).setCell (qa wL.heap.size 1) (.slice au m.uses.length cu)).setCell (qa wL.heap.size 2) (qi (zb3 m))).setCell (qa wL.heap.size 3) (qs)).setCell (qa wL.heap.size 4) (qs)).heap[wL.heap.size]? = some (kzC m.name au m.uses.length cu (zb3 m) none 0 0 none 0 0)):=heap_set (heap_set (heap_set (heap_set (heap_set ((FS.block wL.heap.size (by show wL.heap.size<(wL.alloc _).heap.size;simp)).trans (heap_newP wL _)) _) _) _) _) _;have HA:Hid (EAt (((((wu.setCell (qa wL.heap.size 0) (.string m.name)).setCell (qa wL.heap.size 1) (.slice au m.uses.length cu)).setCell (qa wL.heap.size 2) (qi (zb3 m))).setCell (qa wL.heap.size 3) (qs)).setCell (qa wL.heap.size 4) (qs)) (fun b=>wL.heap.size<=b/\b≠wL.heap.size) au m.uses.length (zaj m.uses)):=((Pv.out au cu rfl).moves ⟨vaa _,fun b hb h=>⟨(⟨by have:(wL.alloc _).heap.size<=b:=h;simp at this;omega,by have:(wL.alloc _).heap.size<=b:=h;simp at this;omega⟩:wL.heap.size<=b/\b≠wL.heap.size),rfl⟩⟩:EAt wu (fun b=>wL.heap.size<=b/\b≠wL.heap.size) au m.uses.length (zaj m.uses)).moves ((zad.refl wu (fun b=>wL.heap.size<=b/\b≠wL.heap.size)).set5 (by intro k _ hk;exact hk.2) _ _ _ _ _)
       have hU:wL.heap.size<=wL.heap.size:=vaa _;go_wp2_with fail;go_meet;exact ⟨_,au,cu,rfl,hU,HW,HU,HA⟩
    case rest=>
     obtain ⟨U,au,cu,rfl,hU,HW,HU,HA⟩:=hcut;have SP:=lt_of_heap HU.out;have T0:=hid ((HW.out.block _ Bm).trans Q0.out);have T1:=hid ((HW.out.block _ (lt_of_heap Q1.out)).trans Q1.out);have T2:=hid ((HW.out.block _ O6).trans RA.out);have CF:=lt_of_heap Q1.out;clear x0 x1 x2 x3 x4 xf;generalize wc=W3 at *;obtain ⟨x0,x1,x2,x3,x4,xf⟩:=zaa T0.out;have LT:=lt_of_heap T0.out;have LS:=lt_of_heap T1.out;have LR:=lt_of_heap T2.out;have Bw:=HW.out.size;go_wp2_with fail;clear x0 x1 x2 x3 x4 xf
     go_loopw [13,14,15,54] (fun _ _ _ i wt=>∃ (j:Nat) (A5:List Pt) (vp:Value),j<=m.procs.length/\i=qi j/\A5.length=j/\zcb (zd9 m l) (m.procs.take j) = .ok A5/\wt.heap[U]? = some (.cells #[.string m.name,.slice au m.uses.length cu,qi (zb3 m),vp,qs] 42)/\Row W3.heap.size 106 3 wt vp A5.length (zk7 A5)/\Keeps U W3 wt) (fun _ _ _ i _=>m.procs.length - (intOf i).toNat)
     case atStart=>exact ⟨0,[],qs,vag _,rfl,rfl,rfl,HU.out,Row.nil _ _ _ _,Keeps.refl _ _⟩
     case round=>
      clear HU;obtain ⟨j,A5,vp,hj,rfl,hacc,hpm,Gb,Aa,Bf⟩:=hrel;have MY:=hid hpm;have Gq:=hid Gb;have KV:=hid Aa;have Pi:=hid Bf;have Se:=Bf.size;have Oz:=lt_of_heap Gb;have R0:=hid ((Bf.block _ LT (by omega)).trans T0.out);have R1:=hid ((Bf.block _ LS (by omega)).trans T1.out);have R2:=hid ((Bf.block _ LR (by omega)).trans T2.out);have PC:Hid (qb wL wr):=Keeps.below HW.out Bf hU (by omega);have BT:=hid (thenB CW.out PC.out);have Pg:=hid (RM.out.later PC.out);obtain ⟨x0,x1,x2,x3,x4,xf⟩:=zaa R0.out
      have n0:wr.cell? ⟨w1.heap.size+1,0,none⟩=some (.map (some w1.heap.size)):=by rw [vef R2.out];rfl
      have Qn:=lt_of_heap R0.out;have Je:=lt_of_heap R1.out;have Qm:=lt_of_heap R2.out;clear hpm Gb Aa Bf
      by_cases A4:j<m.procs.length
      . obtain ⟨b,off,q1,d1,q2,d2,q3,d3,rfl,hx⟩:=(HM.out.procs.later BT.out).pr j A4
        obtain ⟨Au,g0,g1,g2,g3,g4,Dl,E4,Im,B5⟩:=hx;obtain ⟨O2,LC,Fo⟩:=MZ.out.2.2.2.1 m.procs[j] (vaj _);have Ei:=hid (fun c (he:zlk (zd9 m l) m.procs[j] = .error c)=>zwx (zww A4 MY.out he));have Gt:=hid (fun y (he:zlk (zd9 m l) m.procs[j] = .ok y)=>ztd A4 MY.out he);generalize m.procs[j]=p at *;have D1:=hid (z29 (zd9 m l) w1.heap.size p q1 d1 q2 d2 q3 d3 (wr.alloc (kzK p.name p.pub q1 p.params.length d1 q2 p.locals.length d2 q3 p.body.length d3)) (Pg.out.later (al1 _ _)) (Dl.later (al1 _ _)) (E4.later (al1 _ _)) (Im.later (al1 _ _)) O2 LC Fo);clear Dl E4 Im O2 LC Fo B5 x0 x1 x2 x3 x4 xf;go_wp2_with fail;refine D1.out.mono ?_;rintro e w4 ⟨Ai,Aj⟩;have Ar:=hid (thenB (al1 wr _) Aj);have CX:=Aj.size;simp at CX;clear Aj D1 n0 g0 g1 g2 g3 g4
        cases hr:zlk (zd9 m l) p with
        | error c=>
          rw [hr] at Ai;obtain ⟨px,py,pa,pk,pc,rfl,Ak⟩:=Ai;have HR:=hid (Ei.out c hr);have v1:=(Ar.out.block _ Je).trans R1.out;have EM:=lt_of_heap v1;obtain ⟨r0,r1,r2,r3,r4,rf⟩:=zaa v1;clear hr v1;go_wp2_with fail;refine bodyPost_ret (v:=.tuple #[.agg #[.string ⟨#[]⟩,qs,qi 0,qs,qs],qi c]) (by simp [results,Tryz.results64,go_sem,r0,r1,r2,r3,r4,EM]) rfl ⟨by rw [HR.out];exact ⟨rfl,Ak⟩,?_⟩;exact (zdx (thenB BT.out Ar.out) (by omega) _ _ _ _ _).alloc (by simp;omega) _
        | ok t=>
          rw [hr] at Ai;obtain ⟨pa,pc,rfl,hea⟩:=Ai;have HR:=hid (Gt.out t hr);have Ed:=hid ((Ar.out.block _ Oz).trans Gq.out);have JN:Hid (Row W3.heap.size 106 3 (w4.alloc (kzL t.params t.locals pa t.body.length pc)) vp A5.length (zk7 A5)):=(KV.out.later Ar.out).alloc _;have Px:Hid (zau (w4.alloc (kzL t.params t.locals pa t.body.length pc)) (wr.heap.size+1<=·) t.ds [qi t.params,qi t.locals,.slice pa t.body.length pc]):=z3a (hea.moves (((zad.refl w4 _).alloc _).trans ⟨vaa _,fun b _ h=>⟨by simp at h;exact h,rfl⟩⟩));have JZ:=hid (fun k hk=>(KV.out.lt k hk).2);obtain ⟨o0,o1,o2,o3,o4,of⟩:=zaa Ed.out;have Mn:=lt_of_heap Ed.out;have Ka:=hid (((Pi.out.later Ar.out)).alloc (kzL t.params t.locals pa t.body.length pc));clear hr hea
          go_wp2_with (at_builtin;refine zbs rfl (.tmp 69) (.tmp 71) 39 rfl W3.heap.size 106 _ 3 40 Tryz.underlying39 Tryz.infoPart rfl (by decide) (w4.alloc (kzL t.params t.locals pa t.body.length pc)) vp A5.length (zk7 A5) t.ds rfl JN.out #[qi t.params,qi t.locals,.slice pa t.body.length pc] _ (by simp) rfl rfl (wr.heap.size+1<=·) Px.out ?_ (by omega) (by decide) (by simp;omega) ?_)
          . intro b _ hb
            have AY:wr.heap.size+1<=b:=hb;exact ⟨by omega,fun h=>by have:=JZ.out b h;omega⟩
          . intro g5 c5 w5 Bo Av C2
            have K9:=hid (Ka.out.belowOf Av);have Ht:=hid ((Av.block _ (by omega)).trans (zab Ed.out));have B4:=hid (Bo.set (p:=(qa U 3)) (by show U<W3.heap.size;omega) (.slice (some (qa g5 0)) (j+1) c5));have MN:Hid ((w5.setCell (qa U 3) (.slice (some (qa g5 0)) (j+1) c5)).heap[U]? = some (kzC m.name au m.uses.length cu (zb3 m) (some (qa g5 0)) (j+1) c5 none 0 0)):=heap_set Ht.out _;have Nc:=hid (K9.out.own 3 (.slice (some (qa g5 0)) (j+1) c5));obtain ⟨s0,s1,s2,s3,s4,sf⟩:=zaa Ht.out;have QO:=lt_of_heap Ht.out;clear Bo Av JN Px o0 o1 o2 o3 o4 of K9 Ka;go_wp2_with fail;go_roundw
            case rel=>exact ⟨j+1,A5++[t],_,by omega,by go_num,by simp [hacc],HR.out,MN.out,by rw [zz9,vam,hacc];exact B4.out,Nc.out⟩
            case measure=>simp [intOf];omega
      . obtain rfl:j=m.procs.length:=by omega
        have OZ:Hid (zcb (zd9 m l) m.procs = .ok A5):=by have:=MY.out;rw [vau] at this;exact this
        have BR:=hid (zj2 6 m.main MZ.out.2.2.2.2 (zd9 m l) (fun _=>none) (.map (some w1.heap.size)) (.map none) Tt a4 c4 wr Pg.out (zwv wr) (HM.out.main.later BT.out));go_wp2_with fail;refine BR.out.mono ?_;rintro e w4 ⟨Ai,Aj⟩;have Ar:=hid Aj;have CX:=Aj.size;have v1:=(Aj.block _ Je).trans R1.out;have EM:=lt_of_heap v1;obtain ⟨r0,r1,r2,r3,r4,rf⟩:=zaa v1;have Ed:=hid ((Aj.block _ Oz).trans Gq.out);clear Aj BR v1 n0 x0 x1 x2 x3 x4 xf
        cases hr:zfo (zd9 m l) (fun _=>none) m.main with
        | error c=>
          rw [hr] at Ai;obtain ⟨rfl,Ak⟩:=Ai;have HR:=hid (zz7 OZ.out hr);clear hr;go_wp2_with fail;refine bodyPost_ret (v:=.tuple #[.agg #[.string ⟨#[]⟩,qs,qi 0,qs,qs],qi c]) (by simp [results,Tryz.results64,go_sem,r0,r1,r2,r3,r4,EM]) rfl ⟨by rw [HR.out];exact ⟨rfl,Ak⟩,?_⟩;exact zdx (thenB BT.out Ar.out) (by omega) _ _ _ _ _
        | ok bd=>
          rw [hr] at Ai;obtain ⟨ab,cb,rfl,hea⟩:=Ai;have HR:=hid (z53 OZ.out hr);obtain ⟨ap,cp,rfl,hep⟩:=KV.out.slice;obtain ⟨o0,o1,o2,o3,o4,of⟩:=zaa Ed.out;have Mn:=lt_of_heap Ed.out
          have SO:U≠w.heap.size+1:=by omega
          have F7:Hid (∀ u v0 v1 v2 v3 v4,∀ A:Nat->Prop,(∀ b,A b->w.heap.size+2<=b/\b≠U)->zad w4 A (set5 (w4.setCell (qa U 4) u) (w.heap.size+1) v0 v1 v2 v3 v4) (w.heap.size<=·)):=fun u v0 v1 v2 v3 v4 A hA=>
           (((zad.refl w4 A).set (p:=(qa U 4)) (fun b _ hb=>(hA b hb).2) u).set5 (b:=w.heap.size+1) (fun b _ hb=>by have:=(hA b hb).1;omega) v0 v1 v2 v3 v4).trans ⟨vaa _,fun b _ h=>⟨by have:=(hA b h).1;show w.heap.size<=b;omega,rfl⟩⟩
          have Lb:Hid (EAt w4 (fun b=>wL.heap.size<=b/\b≠U) au m.uses.length (zaj m.uses)):=(HA.out.moves ((zad.refl W3 _).keeps Pi.out (fun b _ h=>h.2))).later Ar.out;have CH:Hid (EAt w4 (W3.heap.size<=·) ap A5.length (zk7 A5)):=hep.later Ar.out;have RF:Hid (EAt w4 (wr.heap.size<=·) ab bd.length (zdm bd)):=hea;have Sd:=CW.out.size;clear hr hea hep KV;go_wp2_with fail;refine bodyPost_ret (v:=.tuple #[.agg #[.string m.name,.slice au m.uses.length cu,qi (zb3 m),.slice ap A5.length cp,.slice ab bd.length cb],qi 0]) (by simp [results,Tryz.results64,go_sem,r0,r1,r2,r3,r4,EM,hacc]) rfl ⟨?_,?_⟩
          . rw [HR.out]
            exact ⟨au,cu,ap,cp,ab,cb,rfl,Lb.out.moves (F7.out _ _ _ _ _ _ _ (fun b h=>⟨by have:=h.1;omega,h.2⟩)),CH.out.moves (F7.out _ _ _ _ _ _ _ (fun b h=>by have:W3.heap.size<=b:=h;exact ⟨by omega,by omega⟩)),RF.out.moves (F7.out _ _ _ _ _ _ _ (fun b h=>by have:wr.heap.size<=b:=h;exact ⟨by omega,by omega⟩))⟩
          . exact zdx ((thenB BT.out Ar.out).setCell (p:=(qa U 4)) (by show w.heap.size<=U;omega) _) (by omega) _ _ _ _ _
def za7 (p:Fc × ByteArray):Bool:=Fx.zl0 p.1 == 0&&decide (p.1.name=p.2)
def zee (m:Mo) (l:List Fc):Except Int Un:=
 if chkM m≠0 then .error (chkM m) else if l.length≠m.uses.length then .error 8 else if (l.zip m.uses).all za7 then zjo m l else .error 1
theorem z3d {m:Mo} {l:List Fc} (hl:l.length=m.uses.length) (j:Nat) (h:j<l.length):((l.zip m.uses).take (j+1)).all za7=(((l.zip m.uses).take j).all za7&&za7 (l[j],m.uses[j]'(by omega))):=by
 have hz:j<(l.zip m.uses).length:=by rw [vdo];omega
 rw [vaf hz,vbm,vdx];simp
theorem z55 {m:Mo} {l:List Fc} (hl:l.length=m.uses.length) (j:Nat) (h:j<l.length) (hf:za7 (l[j],m.uses[j]'(by omega))=false):(l.zip m.uses).all za7=false:=by
 have hz:j<(l.zip m.uses).length:=by rw [vdo];omega
 rw [vcw];exact ⟨(l.zip m.uses)[j],vaj _,by rw [vdx];simp [hf]⟩
theorem z0a {m:Mo} {l:List Fc} (hl:l.length=m.uses.length) (h:(l.zip m.uses).all za7=true):∀ f ∈ l,f.items.length<=16:=by
 intro f hf;obtain ⟨j,hj,rfl⟩:=vbl hf
 have hz:j<(l.zip m.uses).length:=by rw [vdo];omega
 have:=vas.1 h _ (vaj hz);rw [vdx] at this;unfold za7 at this;simp only [vac,beq_iff_eq] at this;have hc:=this.1;unfold Fx.zl0 at hc
 by_cases FV:16<l[j].items.length
 . rw [if_pos FV] at hc;cases hc
 . omega
section
variable {P:Program} {ops:Array Oper} {Q:Exit->Act->World->Prop} {md:Region.Mode} {S:World->Prop} {o1:Op} {o2:TypeId} {o3:String} {o4:Array Edge} {o5:Option (Nat × Bool)} {v:Value} {AE:Nat} {Ap:Array Bool} {a:Act} {w:World}
theorem tq (i d:Nat) (hS:S w) (h:wpAnyH P md ops Q S AE (Ap.setIfInBounds i true) (a.put (some d) v) w) (hi:ops[i]? = some (Oper.mk (some d) o1 o2 o3 o4 o5):=by exact rfl)
 (hg:Region.wanted (Oper.mk (some d) o1 o2 o3 o4 o5) (yielded ops a.tmps)=true:=by rfl) (hy:∀ w,S w->(execOp a.eval (Oper.mk (some d) o1 o2 o3 o4 o5)).run P w = .ok (.value v) w:=by (intro w hSw;(try dsimp only at hSw);go_simp;(try with_reducible rfl)))
 (hb:(Region.noSelect ops&&(Region.free md ops Ap i&&(Region.ready md ops Ap).contains i))=true:=by kernel_rfl)
 (hQ:∀ c a w,Q (.panic c) (a.put (some d) v) w->Q (.panic c) a w:=by exact fun _ _ _ h=>h):wpAnyH P md ops Q S (AE+1) Ap a w:=by
 simp only [vac] at hb;exact wpAnyH_take hi hb.1 hb.2.1 hb.2.2 hQ (Or.inl ⟨hg,hy⟩) hS h
theorem tu (i d:Nat) (hS:S w) (h:wpAnyH P md ops Q S AE (Ap.setIfInBounds i true) (a.put (some d) undef) w) (hi:ops[i]? = some (Oper.mk (some d) o1 o2 o3 o4 o5):=by exact rfl)
 (hg:Region.wanted (Oper.mk (some d) o1 o2 o3 o4 o5) (yielded ops a.tmps)=false:=by rfl)
 (hb:(Region.noSelect ops&&(Region.free md ops Ap i&&(Region.ready md ops Ap).contains i))=true:=by kernel_rfl)
 (hQ:∀ c a w,Q (.panic c) (a.put (some d) undef) w->Q (.panic c) a w:=by exact fun _ _ _ h=>h):wpAnyH P md ops Q S (AE+1) Ap a w:=by
 simp only [vac] at hb;exact wpAnyH_take hi hb.1 hb.2.1 hb.2.2 hQ (Or.inr ⟨hg,rfl⟩) hS h
end
theorem znw (a b:ByteArray):(a.toList == b.toList)=decide (a=b):=by
 rw [vcj];simp only [beq_iff_eq,decide_eq_true_eq]
 constructor
 . intro h
   rw [vax,vax] at h;exact zli h
 . rintro rfl;rfl
theorem zte (f:Fc) (h:Fx.zl0 f≠0):Fx.zl0 f=1\/Fx.zl0 f=2:=by
 unfold Fx.zl0 at h ⊢;split
 . exact Or.inr rfl
 . rename_i h1
   rw [if_neg h1] at h;split
   . rename_i h2;rw [if_pos h2] at h;exact absurd rfl h
   . exact Or.inl rfl
theorem fits_cells {w W:World} {x0 x1 v1 z:Value} {t:TypeId} {b bu o:Nat} (hW:Below (w.alloc (.cells #[x0,x1] t)).heap.size (w.alloc (.cells #[x0,x1] t)) W) (h1:w.cell? (qa b 1)=some v1) (hb:b<w.heap.size) (h2:w.cell? (qa bu o)=some z) (FS:bu<w.heap.size) :
 W.cell? (qa w.heap.size 0)=some x0/\W.cell? (qa w.heap.size 1)=some x1/\W.cell? (qa b 1)=some v1/\W.cell? (qa bu o)=some z:=by
 obtain ⟨k0,k1,_⟩:=zcl ((hW.block w.heap.size (by simp)).trans (heap_newP w _));exact ⟨k0,k1,(hW.cell (p:=(qa b 1)) (by show b<_;simp;omega)).trans (((al1 w _).cell (p:=(qa b 1)) hb).trans h1),(hW.cell (p:=(qa bu o)) (by show bu<_;simp;omega)).trans (((al1 w _).cell (p:=(qa bu o)) FS).trans h2)⟩
theorem ztf (m:Mo) (v:Value) (a1:OA) (c1:Nat) (a2:OA) (c2:Nat) (a3:OA) (c3:Nat) (a4:OA) (c4:Nat) (l:List Fc) (al:OA) (cl:Nat) (w:World) (hM:MoAt w Tt m v a1 c1 a2 c2 a3 c3 a4 c4) (hF:DAt w Tt al l.length (z50 l)) :
 qc 21 #[v,.slice al l.length cl] w fun e w'=>zz8 w.heap.size (zee m l) e w'/\qb w w':=by
 obtain rfl:=hM.val;have HM:=hid hM;have Kg:=hid hF;have BH:=hF.bound;have FS:=hM.uses.bound;have HC:=hid (zge m _ a1 c1 a2 c2 a3 c3 a4 c4 ((w.alloc (kzG m.name a1 m.uses.length c1 a2 m.decls.length c2 a3 m.procs.length c3 a4 m.main.length c4)).alloc (kzC ⟨#[]⟩ none 0 0 0 none 0 0 none 0 0)) (hM.later (bl2 _ _ _)));clear hM hF
 obtain ⟨r,hr⟩:∃ r,r=zee m l:=⟨_,rfl⟩
 rw [← hr];have FY:=hid hr;clear hr;go_enter Tryz.func21,Tryz.ntmps21;go_wp2_with fail;refine HC.out.mono ?_;rintro e w1 ⟨rfl,A6⟩;have A7:=hid (thenB (bl2 w _ _) A6);have An:=A6.size;simp at An;have P0:=hid ((A6.block w.heap.size (by simp;omega)).trans (zab (heap_newP w _)));have P1:Hid (w1.heap[w.heap.size+1]? = some (kzC ⟨#[]⟩ none 0 0 0 none 0 0 none 0 0)):=(A6.block (w.heap.size+1) (by simp)).trans (by simpa using heap_newP (w.alloc _) _);obtain ⟨x0,x1,x2,x3,x4,xf⟩:=zaa P0.out;obtain ⟨r0,r1,r2,r3,r4,rf⟩:=zaa P1.out;have GO:=lt_of_heap P0.out;have EM:=lt_of_heap P1.out;clear A6 HC
 by_cases hc:chkM m=0
 case neg=>
  have HR:Hid (r = .error (chkM m)):=FY.out.trans (if_pos hc);go_wp2_with fail;refine bodyPost_ret (v:=.tuple #[.agg #[.string ⟨#[]⟩,qs,qi 0,qs,qs],qi (chkM m)]) (by simp [results,Tryz.results21,go_sem,r0,r1,r2,r3,r4,EM]) rfl ⟨by rw [HR.out];exact ⟨rfl,hc⟩,?_⟩;exact zdx A7.out (by omega) _ _ _ _ _
 have AZ:Hid (r=if l.length≠m.uses.length then .error 8 else if (l.zip m.uses).all za7 then zjo m l else .error 1):=FY.out.trans (if_neg (by simp [hc]));have HZ:=hid hc;rw [hc];clear hc FY
 by_cases Ah:l.length=m.uses.length
 case neg=>
  have HR:Hid (r = .error 8):=AZ.out.trans (if_pos Ah)
  have J4:¬ ((l.length:Int)=m.uses.length):=by omega
  go_wp2_with fail;refine bodyPost_ret (v:=.tuple #[.agg #[.string ⟨#[]⟩,qs,qi 0,qs,qs],qi 8]) (by simp [results,Tryz.results21,go_sem,r0,r1,r2,r3,r4,EM]) rfl ⟨by rw [HR.out];exact ⟨rfl,by decide⟩,?_⟩;exact zdx A7.out (by omega) _ _ _ _ _
 have Ao:Hid (r=if (l.zip m.uses).all za7 then zjo m l else .error 1):=AZ.out.trans (if_neg (by simp [Ah]));have Ev:=hid Ah;have Ku:=(zfb (zpd HZ.out)).1
 have Qo:(l.length:Int)=(m.uses.length:Int):=by omega
 clear AZ Ah;go_wp2_with fail;clear Qo
 go_loopw [7,8,24] (fun _ _ i wr=>∃ j:Nat,j<=l.length/\i=qi j/\((l.zip m.uses).take j).all za7=true/\qb w1 wr) (fun _ _ i _=>l.length - (intOf i).toNat)
 case atStart=>exact ⟨0,vag _,rfl,rfl,Below.refl _ _⟩
 case round=>
  obtain ⟨j,hj,rfl,A8,Ea⟩:=hrel;have PD:=hid A8;have HB:=hid Ea;have C9:=Ea.size;have BT:=hid (thenB A7.out Ea);have R0:=hid ((Ea.block _ GO).trans P0.out);have R1:=hid ((Ea.block _ EM).trans P1.out);clear A8 Ea x0 x1 x2 x3 x4 xf r0 r1 r2 r3 r4 rf;obtain ⟨x0,x1,x2,x3,x4,xf⟩:=zaa R0.out;obtain ⟨r0,r1,r2,r3,r4,rf⟩:=zaa R1.out;have LL:=lt_of_heap R0.out;have LN:=lt_of_heap R1.out
  by_cases A4:j<l.length
  . have Og:j<m.uses.length:=by have:=Ev.out;omega
    obtain ⟨b,off,aj,cj,rfl,Au,y0,y1,B5,hdj⟩:=(Kg.out.later BT.out).fc j A4;obtain ⟨bu,ou,rfl,Mi,z0,hzm⟩:=(HM.out.uses.later BT.out).str j Og;obtain ⟨DC,HFj⟩:=zll hdj;have SL:=hdj.bound;have BP:=hid (z3d Ev.out j A4);have G1:=hid (z55 Ev.out j A4)
    have Iv:(j:Int)<m.uses.length:=by omega
    generalize l[j]=f at *;generalize m.uses[j]'Og=u at *;have Fe:=hid (fun W (hW:qb wr W)=>Fx.zmk f aj cj W (DC.later hW) (by omega) B5 HFj);have HS:=hid (fun W (hW:Below (wr.alloc (.cells #[.string f.name,.slice aj f.items.length cj] 30)).heap.size (wr.alloc (.cells #[.string f.name,.slice aj f.items.length cj] 30)) W)=>(fits_cells hW x1 LL z0 Mi:W.cell? (qa wr.heap.size 0)=some (.string f.name)/\W.cell? (qa wr.heap.size 1)=some (.slice aj f.items.length cj)/\W.cell? (qa w.heap.size 1)=some (.slice (some (qa bu ou)) m.uses.length c1)/\W.cell? ⟨bu,ou+j,none⟩=some (.string u)));have FF:=hid (HS.out _ (bdrew _));clear hdj DC HFj
    by_cases Fw:Fx.zl0 f=0
    . cases Kw:decide (f.name=u) with
      | true=>
        have IG:Hid (za7 (f,u)=true):=by show za7 (f,u)=true;unfold za7;simp only [Fw,Kw];rfl
        have EZ:Hid (((l.zip m.uses).take (j+1)).all za7=true):=BP.out.trans (by rw [PD.out,IG.out];rfl);rw [Fw] at Fe;have CL:(f.name.toList == u.toList)=true:=(znw _ _).trans Kw;clear BP G1 Fw;go_wp2_with fail
        go_region_held (fun W=>W.cell? (qa wr.heap.size 0)=some (.string f.name)/\W.cell? (qa wr.heap.size 1)=some (.slice aj f.items.length cj)/\W.cell? (qa w.heap.size 1)=some (.slice (some (qa bu ou)) m.uses.length c1)/\W.cell? ⟨bu,ou+j,none⟩=some (.string u)) (exact FF.out)
         (first | (go_at_call 19;refine (Fe.out _ (zbe wr _)).mono ?_;rintro e w3 ⟨rfl,A9⟩;have Ae:=hid (thenB (bdrew (wr.alloc (.cells #[.string f.name,.slice aj f.items.length cj] 30))) A9);have FF:=hid (HS.out _ Ae.out);clear A9))
        have E1:=hid (thenB (thenB BT.out (al1 wr (.cells #[.string f.name,.slice aj f.items.length cj] 30))) Ae.out);have Bw:=Ae.out.size;simp at Bw;have v1:=(Ae.out.block _ (by simp;omega)).trans (zab (o:=(.cells #[.string f.name,.slice aj f.items.length cj] 30)) R1.out);clear r0 r1 r2 r3 r4 rf;obtain ⟨r0,r1,r2,r3,r4,rf⟩:=zaa v1;have E7:=lt_of_heap v1;clear v1;go_wp2_with fail;go_roundw
        case rel=>exact ⟨j+1,by omega,by go_num,EZ.out,thenB (thenB HB.out (al1 wr _)) Ae.out⟩
        case measure=>simp [intOf];omega
      | false=>
        have IG:Hid (za7 (f,u)=false):=by show za7 (f,u)=false;unfold za7;simp only [Kw,Bool.and_false]
        rw [Fw] at Fe;have CL:(f.name.toList == u.toList)=false:=(znw _ _).trans Kw;clear BP Fw;have HR:Hid (r = .error 1):=Ao.out.trans (if_neg (by rw [G1.out IG.out];decide));go_wp2_with fail
        go_region_held (fun W=>W.cell? (qa wr.heap.size 0)=some (.string f.name)/\W.cell? (qa wr.heap.size 1)=some (.slice aj f.items.length cj)/\W.cell? (qa w.heap.size 1)=some (.slice (some (qa bu ou)) m.uses.length c1)/\W.cell? ⟨bu,ou+j,none⟩=some (.string u)) (exact FF.out)
         (first | (go_at_call 19;refine (Fe.out _ (zbe wr _)).mono ?_;rintro e w3 ⟨rfl,A9⟩;have Ae:=hid (thenB (bdrew (wr.alloc (.cells #[.string f.name,.slice aj f.items.length cj] 30))) A9);have FF:=hid (HS.out _ Ae.out);clear A9))
        have E1:=hid (thenB (thenB BT.out (al1 wr (.cells #[.string f.name,.slice aj f.items.length cj] 30))) Ae.out);have Bw:=Ae.out.size;simp at Bw;have v1:=(Ae.out.block _ (by simp;omega)).trans (zab (o:=(.cells #[.string f.name,.slice aj f.items.length cj] 30)) R1.out);clear r0 r1 r2 r3 r4 rf;obtain ⟨r0,r1,r2,r3,r4,rf⟩:=zaa v1;have E7:=lt_of_heap v1;clear v1;go_wp2_with fail;refine bodyPost_ret (v:=.tuple #[.agg #[.string ⟨#[]⟩,qs,qi 0,qs,qs],qi 1]) (by simp [results,Tryz.results21,go_sem,r0,r1,r2,r3,r4,E7]) rfl ⟨by rw [HR.out];exact ⟨rfl,by decide⟩,?_⟩;exact zdx E1.out (by omega) _ _ _ _ _
    . have IG:Hid (za7 (f,u)=false):=by show za7 (f,u)=false;unfold za7;simp only [beq_eq_false_iff_ne.2 Fw,vec]
      clear BP
      rcases zte f Fw with Be | BU
      . rw [Be] at Fe
        clear Fw Be;have HR:Hid (r = .error 1):=Ao.out.trans (if_neg (by rw [G1.out IG.out];decide));go_wp2_with fail;refine wp_region_held_drew (S:=(fun W=>W.cell? (qa wr.heap.size 0)=some (.string f.name)/\W.cell? (qa wr.heap.size 1)=some (.slice aj f.items.length cj)/\W.cell? (qa w.heap.size 1)=some (.slice (some (qa bu ou)) m.uses.length c1)/\W.cell? ⟨bu,ou+j,none⟩=some (.string u))) (by kernel_rfl) FF.out (fun A0=>?_);refine tq 0 29 A0 ?_
        (try simp only [Act.put,vad,van,vap])
        refine wpAnyH_ready (rs:=[1]) (by kernel_rfl) (by simp) ?_;refine AllReadyH.cons rfl (fun K hK=>?_) AllReadyH.nil;go_simp
        go_wp2_with (go_at_call 19;refine (Fe.out _ (zbe wr _)).mono ?_;rintro e w3 ⟨rfl,A9⟩)
        have Ae:=hid (thenB (bdrew (wr.alloc (.cells #[.string f.name,.slice aj f.items.length cj] 30))) A9);clear A9;refine hK.out _ _ (HS.out _ Ae.out) (fun A0=>?_);clear hK K;refine tq 2 31 A0 ?_
        (try simp only [Act.put,vad,van,vap])
        refine tq 3 32 A0 ?_
        (try simp only [Act.put,vad,van,vap])
        refine tu 4 33 A0 ?_
        (try simp only [Act.put,vad,van,vap])
        refine tu 5 34 A0 ?_
        (try simp only [Act.put,vad,van,vap])
        refine tu 6 35 A0 ?_
        (try simp only [Act.put,vad,van,vap])
        refine tu 7 36 A0 ?_
        (try simp only [Act.put,vad,van,vap])
        refine tu 8 37 A0 ?_
        (try simp only [Act.put,vad,van,vap])
        refine tu 9 38 A0 ?_
        (try simp only [Act.put,vad,van,vap])
        refine tu 10 39 A0 ?_
        (try simp only [Act.put,vad,van,vap])
        refine tu 11 40 A0 ?_
        (try simp only [Act.put,vad,van,vap])
        refine tq 12 41 A0 ?_
        (try simp only [Act.put,vad,van,vap])
        refine wpAnyH_done (by kernel_rfl) ?_ _;have E1:=hid (thenB (thenB BT.out (al1 wr (.cells #[.string f.name,.slice aj f.items.length cj] 30))) Ae.out);have Bw:=Ae.out.size;simp at Bw;have v1:=(Ae.out.block _ (by simp;omega)).trans (zab (o:=(.cells #[.string f.name,.slice aj f.items.length cj] 30)) R1.out);clear r0 r1 r2 r3 r4 rf;obtain ⟨r0,r1,r2,r3,r4,rf⟩:=zaa v1;have E7:=lt_of_heap v1;clear v1;go_wp2_with fail;refine bodyPost_ret (v:=.tuple #[.agg #[.string ⟨#[]⟩,qs,qi 0,qs,qs],qi 1]) (by simp [results,Tryz.results21,go_sem,r0,r1,r2,r3,r4,E7]) rfl ⟨by rw [HR.out];exact ⟨rfl,by decide⟩,?_⟩;exact zdx E1.out (by omega) _ _ _ _ _
      . rw [BU] at Fe
        clear Fw BU;have HR:Hid (r = .error 1):=Ao.out.trans (if_neg (by rw [G1.out IG.out];decide));go_wp2_with fail;refine wp_region_held_drew (S:=(fun W=>W.cell? (qa wr.heap.size 0)=some (.string f.name)/\W.cell? (qa wr.heap.size 1)=some (.slice aj f.items.length cj)/\W.cell? (qa w.heap.size 1)=some (.slice (some (qa bu ou)) m.uses.length c1)/\W.cell? ⟨bu,ou+j,none⟩=some (.string u))) (by kernel_rfl) FF.out (fun A0=>?_);refine tq 0 29 A0 ?_
        (try simp only [Act.put,vad,van,vap])
        refine wpAnyH_ready (rs:=[1]) (by kernel_rfl) (by simp) ?_;refine AllReadyH.cons rfl (fun K hK=>?_) AllReadyH.nil;go_simp
        go_wp2_with (go_at_call 19;refine (Fe.out _ (zbe wr _)).mono ?_;rintro e w3 ⟨rfl,A9⟩)
        have Ae:=hid (thenB (bdrew (wr.alloc (.cells #[.string f.name,.slice aj f.items.length cj] 30))) A9);clear A9;refine hK.out _ _ (HS.out _ Ae.out) (fun A0=>?_);clear hK K;refine tq 2 31 A0 ?_
        (try simp only [Act.put,vad,van,vap])
        refine tq 3 32 A0 ?_
        (try simp only [Act.put,vad,van,vap])
        refine tu 4 33 A0 ?_
        (try simp only [Act.put,vad,van,vap])
        refine tu 5 34 A0 ?_
        (try simp only [Act.put,vad,van,vap])
        refine tu 6 35 A0 ?_
        (try simp only [Act.put,vad,van,vap])
        refine tu 7 36 A0 ?_
        (try simp only [Act.put,vad,van,vap])
        refine tu 8 37 A0 ?_
        (try simp only [Act.put,vad,van,vap])
        refine tu 9 38 A0 ?_
        (try simp only [Act.put,vad,van,vap])
        refine tu 10 39 A0 ?_
        (try simp only [Act.put,vad,van,vap])
        refine tu 11 40 A0 ?_
        (try simp only [Act.put,vad,van,vap])
        refine tq 12 41 A0 ?_
        (try simp only [Act.put,vad,van,vap])
        refine wpAnyH_done (by kernel_rfl) ?_ _;have E1:=hid (thenB (thenB BT.out (al1 wr (.cells #[.string f.name,.slice aj f.items.length cj] 30))) Ae.out);have Bw:=Ae.out.size;simp at Bw;have v1:=(Ae.out.block _ (by simp;omega)).trans (zab (o:=(.cells #[.string f.name,.slice aj f.items.length cj] 30)) R1.out);clear r0 r1 r2 r3 r4 rf;obtain ⟨r0,r1,r2,r3,r4,rf⟩:=zaa v1;have E7:=lt_of_heap v1;clear v1;go_wp2_with fail;refine bodyPost_ret (v:=.tuple #[.agg #[.string ⟨#[]⟩,qs,qi 0,qs,qs],qi 1]) (by simp [results,Tryz.results21,go_sem,r0,r1,r2,r3,r4,E7]) rfl ⟨by rw [HR.out];exact ⟨rfl,by decide⟩,?_⟩;exact zdx E1.out (by omega) _ _ _ _ _
  . obtain rfl:j=l.length:=by omega
    have O6:¬ (l.length<m.uses.length):=by have:=Ev.out;omega
    have PE:Hid ((l.zip m.uses).all za7=true):=by have:=PD.out;rw [vaw (by rw [vdo];omega)] at this;exact this
    have HR:Hid (r=zjo m l):=Ao.out.trans (if_pos PE.out);have BR:=hid (z3c m _ a1 c1 a2 c2 a3 c3 a4 c4 l al cl wr (HM.out.later BT.out) (zpd HZ.out) (Kg.out.later BT.out) (by have:=Ev.out;omega) (z0a Ev.out PE.out));go_wp2_with fail;refine BR.out.mono ?_;rintro e w5 ⟨Ai,As⟩;have Av:=hid (thenB BT.out As);have C2:=As.size;have v1:=(As.block _ LN).trans R1.out;clear r0 r1 r2 r3 r4 rf;obtain ⟨r0,r1,r2,r3,r4,rf⟩:=zaa v1;have J8:=lt_of_heap v1;clear As v1 BR
    cases hq:zjo m l with
    | error c=>
      rw [hq] at Ai;obtain ⟨rfl,Ak⟩:=Ai;have MU:Hid (r = .error c):=HR.out.trans hq;clear hq;go_wp2_with fail;refine bodyPost_ret (v:=.tuple #[.agg #[.string ⟨#[]⟩,qs,qi 0,qs,qs],qi c]) (by simp [results,Tryz.results21,go_sem,r0,r1,r2,r3,r4,J8]) rfl ⟨by rw [MU.out];exact ⟨rfl,Ak⟩,?_⟩;exact zdx Av.out (by omega) _ _ _ _ _
    | ok q=>
      rw [hq] at Ai;obtain ⟨g1,k1,g2,k2,g3,k3,rfl,he1,ET,he3⟩:=Ai;have MU:Hid (r = .ok q):=HR.out.trans hq
      have F7:Hid (∀ v0 v1 v2 v3 v4,zad w5 (wr.heap.size<=·) (set5 w5 (w.heap.size+1) v0 v1 v2 v3 v4) (w.heap.size<=·)):=fun v0 v1 v2 v3 v4=>
       ((zad.refl w5 (wr.heap.size<=·)).set5 (b:=w.heap.size+1) (fun b _ hb=>by have:wr.heap.size<=b:=hb;omega) v0 v1 v2 v3 v4).trans ⟨vaa _,fun b _ h=>⟨by have:wr.heap.size<=b:=h;show w.heap.size<=b;omega,rfl⟩⟩
      have BM:=hid he1;have FA:=hid ET;have II:=hid he3;clear hq he1 ET he3;go_wp2_with fail;refine bodyPost_ret (v:=.tuple #[.agg #[.string q.name,.slice g1 q.uses.length k1,qi q.data,.slice g2 q.parts.length k2,.slice g3 q.main.length k3],qi 0]) (by simp [results,Tryz.results21,go_sem,r0,r1,r2,r3,r4,J8]) rfl ⟨?_,?_⟩
      . rw [MU.out]
        exact ⟨g1,k1,g2,k2,g3,k3,rfl,BM.out.moves (F7.out _ _ _ _ _),FA.out.moves (F7.out _ _ _ _ _),II.out.moves (F7.out _ _ _ _ _)⟩
      . exact zdx Av.out (by omega) _ _ _ _ _
end Go.Proofs.YtndkhgakfodldaaGreatDoor

namespace Go.Proofs.YtndkhgakfodldaaGreatDoor
open Go.RowKit
set_option linter.unusedSimpArgs false
set_option linter.unusedVariables false
theorem z0b {n:Int} (h1 : -1000000000000000<=n) (h2:n<=1000000000000000):(Lit.int .i64 n).wf=true:=by
 simp only [Lit.wf,vac,decide_eq_true_eq];exact ⟨by show (-9223372036854775808:Int)<=n;omega,by show n<=(9223372036854775807:Int);omega⟩
end Go.Proofs.YtndkhgakfodldaaGreatDoor

namespace Go.Proofs.YtndkhgakfodldaaGreatDoor
set_option maxRecDepth 100000
set_option maxHeartbeats 800000
open Go.RowKit Go.Maps Go.WideMaps
set_option linter.unusedSimpArgs false
set_option linter.unusedVariables false
theorem zpi {W:World} {base:Nat} {t:TypeId} {sz:Nat} {a:OA} {n cap:Nat} {xs:List Value} {ds:List D} (h:W.ownsRow base t sz (.slice a n cap) n xs) (hx:zap W Tt ds xs) (h1:n<=ds.length) (h2:ds.length<=17592186044416):DAt W Tt a n ds:=by
 refine ⟨h1,h2,?_⟩
 rcases h.2 with ⟨e,h0⟩ | ⟨g,cap',AC,e,_,hg,_⟩
 . exact Or.inl h0
 . cases e
   refine Or.inr ⟨g,0,xs,rfl,trivial,lt_of_heap hg,fun j u hj=>?_,hx⟩;have:=h.cells (g:=g) rfl j u hj;rw [show ((qa g 0):Addr).add j=(qa g j) from by unfold Addr.add;split<;>simp_all] at this
   rw [vba];exact this
def zfd (n:Int):Prop:=-1000000000000000<=n/\n<=1000000000000000
theorem zlo {W:World} {n:Int} (h:zfd n):zc7 W Tt (.int n) (qi n):=zdl (z0b h.1 h.2)
theorem zvf {W:World}:∀ (l:List Gi),(∀ i ∈ l,zfd i.op/\zfd i.a/\zfd i.b)->zap W Tt (zv5 l) (zen l)
 | [],_=>zap.nil
 | i :: r,h=>by
   have h1:=h i (var ..);simp only [zv5,zen,vbf];exact zap.append (.cons (zlo h1.1) (.cons (zlo h1.2.1) (.cons (zlo h1.2.2) .nil))) (zvf r (fun j hj=>h j (vai _ hj)))
theorem zvg {W:World}:∀ (l:List Gf),(∀ i ∈ l,zfd i.at_/\zfd i.kind/\zfd i.m)->zap W Tt (z1u l) (z3l l)
 | [],_=>zap.nil
 | i :: r,h=>by
   have h1:=h i (var ..);simp only [z1u,z3l,vbf];exact zap.append (.cons (zlo h1.1) (.cons (zlo h1.2.1) (.cons (zlo h1.2.2) .nil))) (zvg r (fun j hj=>h j (vai _ hj)))
theorem zre {W:World}:∀ (l:List Int),(∀ i ∈ l,zfd i)->zap W Tt (zfy l) (intV l)
 | [],_=>zap.nil
 | i :: r,h=>.cons (zlo (h i (var ..))) (zre r (fun j hj=>h j (vai _ hj)))
theorem zrf {W:World}:∀ (l:List ByteArray),(∀ s ∈ l,s.size<=maxLen)->zap W Tt (zaj l) (strV l)
 | [],_=>zap.nil
 | i :: r,h=>.cons (zeu (h i (var ..))) (zrf r (fun j hj=>h j (vai _ hj)))
theorem zvh (l:List Gi):(zv5 l).length=l.length*3:=by
 induction l with
 | nil=>rfl
 | cons x r ih=>simp only [zv5,vbf,vam,vav] at ih ⊢;rw [ih];simp [Gi.ds];omega
theorem zvi (l:List Gf):(z1u l).length=l.length*3:=by
 induction l with
 | nil=>rfl
 | cons x r ih=>simp only [z1u,vbf,vam,vav] at ih ⊢;rw [ih];simp [Gf.ds];omega
theorem z4b (N:Int):∀ (e:List Gf) (lo:Int),lo<=N->e.Pairwise (fun f g=>f.at_<g.at_)->(∀ f ∈ e,lo<=f.at_/\f.at_<N)->(e.length:Int)<=N - lo
 | [],lo,h,_,_=>by simp;omega
 | f :: r,lo,h,hp,hb=>by
   rw [List.pairwise_cons] at hp;have h1:=hb f (var ..);have:=z4b N r (f.at_+1) (by omega) hp.2 (fun g hg=>⟨by have:=hp.1 g hg;omega,(hb g (vai _ hg)).2⟩);rw [vav];omega
theorem z56 {u:Un} {o:Ob} (h:zw5 u = .ok o):o=zps u/\ze0 u ziy zig=true/\Go.Lib.containsS u.uses u.name=false/\zhh (genS u)=false:=by
 unfold zw5 at h
 split at h
 . cases h
 . rename_i h1
   split at h
   . cases h
   . rename_i h2
     cases h;simp only [vcs,vat] at h1;exact ⟨rfl,by simpa using h1.2,h1.1,by simpa using h2⟩
theorem z0c {u:Un} (h:ze0 u ziy zig=true):(∀ i ∈ (genS u).code,zfd i.op/\zfd i.a/\zfd i.b)/\(∀ f ∈ (genS u).fixes,zfd f.at_/\zfd f.kind/\zfd f.m)/\(∀ x ∈ entsW u.parts,zfd x)/\zfd ((zb1 u.parts).code.length:Int)/\(genS u).fixes.length<=33000:=by
 obtain ⟨ha,_,hl,hs⟩:=z1w h;have hb:=zty h;have h3:=zin (zb0 h).2.2;obtain ⟨e,he,hp,hr⟩:=ha.fx
 have FP:(genS u).fixes=e:=by rw [he];rfl
 subst FP;refine ⟨fun i hi=>?_,fun f hf=>?_,fun x hx=>?_,by unfold zfd;omega,?_⟩
 . obtain ⟨k,hk,rfl⟩:=vbl hi
   have:=ha.ins k _ (vag _) (vae hk);unfold inR at this;unfold zfd;omega
 . obtain ⟨k,i,hi,hk,_,hx⟩:=hr f hf
   have:=zd3 hi;unfold zfd
   rcases hx with ⟨h1,h2,_⟩ | ⟨h1,_,_,h4⟩<;>omega
 . rw [zsp,vch] at hx
   obtain ⟨b,AY,e⟩:=hx;have:=hs b AY;unfold zfd;omega
 . have:=z4b ((genS u).code.length:Int) (genS u).fixes 0 (by omega) hp (fun f hf=>by
    obtain ⟨k,i,hi,hk,_,_⟩:=hr f hf;have:=zd3 hi
    omega)
   omega
theorem z57 {W:World} {base:Nat} {t:TypeId} {sz:Nat} {a:OA} {n cap:Nat} {xs:List Value} (h:W.ownsRow base t sz (.slice a n cap) n xs):n<=cap:=by
 obtain ⟨_,_,e,h1,_⟩:=zal h
 cases e
 exact h1
theorem z4c {u:Un} {o:Ob} (hg:zw5 u = .ok o) {x1:OA} {y1:Nat} {x2:OA} {y2:Nat} {x3:OA} {y3:Nat} {w:World} (hU:UvAt w u x1 y1 x2 y2 x3 y3) :
 qc 31 #[.agg #[.string u.name,.slice x1 u.uses.length y1,qi u.data,.slice x2 u.parts.length y2,.slice x3 u.main.length y3]] w fun e w'=>∃ x1 y1 x3 y3 x4 y4 x5 y5,e = .returned (.tuple #[.agg #[.string o.name,.slice x1 o.uses.length y1,qi o.data,.slice x3 o.code.length y3,.slice x4 o.fixes.length y4,.slice x5 o.entries.length y5,qi o.main],qi 0])/\OvAt w' o x1 x3 x4 x5/\o.uses.length<=y1/\qb w w':=
 (z49 u x1 y1 x2 y2 x3 y3 w hU).mono fun e w' ⟨h,hb⟩=>by
   obtain ⟨rfl,hh,hc,hf⟩:=z56 hg;unfold zjf at h;rw [hg] at h;obtain ⟨ua,uc,ca,cc,fa,fc,ea,ec,he,h1,h2,h3,h4⟩:=h;obtain ⟨s1,s2,s3,s4,s5⟩:=z0c hh;have hd:=ziv (zb0 hh).2.2;have hu:=zin (zb0 hh).2.2;have h6:=zid (zb0 hh).2.2;have ES:(zps u).entries.length=u.parts.length:=zdp ..;have Dp:=zty hh;refine ⟨ua,uc,ca,cc,fa,fc,ea,ec,he,⟨hU.wn,?_,z0b (by show _<=u.data;omega) (by show u.data<=_;omega),?_,?_,?_,z0b s4.1 s4.2⟩,z57 h1,hb⟩
   . exact zpi h1 (zrf _ (zel hU.uses).2) (by simp [zaj]) (by show (zaj u.uses).length<=_;simp [zaj];omega)
   . exact zpi h2 (zvf _ s1) (by rw [zvh];omega) (by rw [zvh];show (genS u).code.length*3<=_;omega)
   . exact zpi h3 (zvg _ s2) (by rw [zvi];omega) (by rw [zvi];show (genS u).fixes.length*3<=_;omega)
   . exact zpi h4 (zre _ s3) (by simp [zfy]) (by rw [show (zfy (zps u).entries).length=(zps u).entries.length from by simp [zfy],ES];omega)
end Go.Proofs.YtndkhgakfodldaaGreatDoor

namespace Go.Proofs.YtndkhgakfodldaaGreatDoor
set_option maxRecDepth 100000
set_option maxHeartbeats 6400000
open Go.RowKit Go.Shelf
set_option linter.unusedSimpArgs false
set_option linter.unusedVariables false
section
variable {P:Program} {ops:Array Oper} {o:Oper} {a:Act} {w:World} {K:Act->World->Prop} {Q:Exit->Act->World->Prop} {E:Prop}
theorem run_callN (f:FuncId) (xs:Array Operand) (FC:Array TypeId) (ho:o.op = .call { callee:=.value (.func f),args:=xs,argTypes:=FC })
 (C5:Enters P f) (vs:Array Value) (hx:xs.map a.eval=vs):(execOp a.eval o).run P w = .ok (.enter f vs) w:=by
 have h:=C5 vs w;have hf:a.eval (.func f) = .func (.func f) #[] #[]:=rfl;simp [execOp,ho,resolve,invoke,hx,hf,h,Deferred.ofValue]
end
set_option maxHeartbeats 1600000
set_option maxHeartbeats 6400000
theorem DAt.lower {w:World} {a:OA} {n:Nat} {ds:List D} (h:DAt w Tt a n ds):DAt w (·<w.heap.size) a n ds:=h.moves ⟨vaa _,fun b hb _=>⟨hb,rfl⟩⟩
end Go.Proofs.YtndkhgakfodldaaGreatDoor
