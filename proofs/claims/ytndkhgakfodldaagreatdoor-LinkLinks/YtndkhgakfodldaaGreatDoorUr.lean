import Derived.Deep.DeepCutAuto
import Derived.Test.YtndkhgakfodldaaGreatDoorJf
namespace Go.Proofs.YtndkhgakfodldaaGreatDoor
set_option maxRecDepth 100000
set_option maxHeartbeats 8000000
open Go.RowKit Go.Maps Go.WideMaps
set_option linter.unusedSimpArgs false
theorem jX{P:Prop}(h:P:=by
 go_wp2_with fail;go_meet;exact ⟨_,au,cu,rfl,hU,HW,HU,HA⟩):P:=h
theorem zkh {ops:Array Oper} {o:Oper} {a:Act} {K:Act->World->Prop} {Q:Exit->Act->World->Prop} {E:Prop} {w:World} (BK:o.guard=none) (s x:Operand)
 (ho:o.op = .call { callee:=.builtin .append,args:=#[s,x],argTypes:=#[22,22] }) (us:List ByteArray) (b:OA) (c:Nat) (hs:a.eval s=qs) (hx:a.eval x = .slice b us.length c) (hS:Fx.zez w b us) (Ah:us.length<=10000)
 (h:∀ v' w',w'.ownsRow w.heap.size 9 1 v' us.length (strV us)->qb w w'->K (a.put o.dst v') w') :
 if Region.wanted o (yielded ops a.tmps)=true then Oper.wp Tryz.prog o a w K Q else E:=by
 have hw:Region.wanted o (yielded ops a.tmps)=true:=bK
 rw [if_pos hw];obtain ⟨v',w',hr,h2,h3⟩:=zcc w.heap.size o.type (qs) 0 [] (ves _ _ _ _) us b c hS ae (vaa _);refine Lib.wp_append_run w s x _ _ ho _ _ hs hx v' w' hr (h v' w' dz ?_);exact (Below.refl w.heap.size w).grown h3 (vaa _) (fun k hk=>cY)
theorem Tryz.infoPart:(Tryz.prog.info? 106).map (fun i=>(i.zero,i.size,i.bytes))=some (some (.agg #[qi 0,qi 0,qs]),3,40):=ah
theorem z4b {A:Nat->Prop} {t:Pt} {w:World} {a:OA} {cap:Nat} (h:EAt w A a t.body.length (zdu t.body)):zav w A t.ds [qi t.params,qi t.locals,.slice a t.body.length cap]:=.cons zqh (.cons zqh (.cons h.val .nil))
theorem z01 (l:List Pt) (x:Pt):zlu (l++[x])=zlu l++x.ds:=by simp [zlu]
theorem zvz {w:World} {b:Nat} {x0 x1 x2 x3 x4:Value} {t:TypeId} (h:w.heap[b]? = some (.cells #[x0,x1,x2,x3,x4] t (0,0))):w.cell? (qa b 0)=some x0/\w.cell? (qa b 1)=some x1/\w.cell? (qa b 2)=some x2/\w.cell? (qa b 3)=some x3/\w.cell? (qa b 4)=some x4/\(∀ i,w.frozen? (qa b i)=false)/\b<w.heap.size:=by
 exact jt
theorem zma {W:World} {b:Nat} {x0 x1:Value} (hb:b<W.heap.size) (h:W.cell? (qa b 0)=some x0/\W.cell? (qa b 1)=some x1) (o:Obj):(W.alloc o).cell? (qa b 0)=some x0/\(W.alloc o).cell? (qa b 1)=some x1:=
 ⟨((al1 W o).cell (p:=(qa b 0)) hb).trans h.1,((al1 W o).cell (p:=(qa b 1)) hb).trans h.2⟩
theorem zxn {W:World} {b:Nat} {x0 x1:Value} (hb:b<W.heap.size) (h:W.cell? (qa b 0)=some x0/\W.cell? (qa b 1)=some x1) (o:Obj):(W.alloc o).drew.cell? (qa b 0)=some x0/\(W.alloc o).drew.cell? (qa b 1)=some x1:=zma hb h o
theorem z64 {W:World} {b c:Nat} {x0 x1:Value} (hn:b≠c) (h:W.cell? (qa b 0)=some x0/\W.cell? (qa b 1)=some x1) (u0 u1 u2 u3 u4:Value) :
 (((((W.setCell (qa c 0) u0).setCell (qa c 1) u1).setCell (qa c 2) u2).setCell (qa c 3) u3).setCell (qa c 4) u4).cell? (qa b 0)=some x0/\(((((W.setCell (qa c 0) u0).setCell (qa c 1) u1).setCell (qa c 2) u2).setCell (qa c 3) u3).setCell (qa c 4) u4).cell? (qa b 1)=some x1:=by
 have e:(((((W.setCell (qa c 0) u0).setCell (qa c 1) u1).setCell (qa c 2) u2).setCell (qa c 3) u3).setCell (qa c 4) u4).heap[b]? = W.heap[b]?:=(heap_set_ne hn _).trans ((heap_set_ne hn _).trans ((heap_set_ne hn _).trans ((heap_set_ne hn _).trans (heap_set_ne hn _))));exact ⟨(vet (w:=W) (a:=(qa b 0)) e).trans h.1,(vet (w:=W) (a:=(qa b 1)) e).trans h.2⟩
theorem bdrew (w:World):qb w w.drew:=(Below.refl _ _).drew
theorem zbg (w:World) (o:Obj):qb w (w.alloc o).drew:=((Below.refl _ w).alloc (vaa _) o).drew
theorem zxo {w wu:World} {x0 x1 x2 x3 x4:Value} {t:TypeId} (hb:Below (w.alloc (.cells #[x0,x1,x2,x3,x4] t)).drew.heap.size (w.alloc (.cells #[x0,x1,x2,x3,x4] t)).drew wu) :
 wu.cell? (qa w.heap.size 0)=some x0/\wu.cell? (qa w.heap.size 1)=some x1/\wu.cell? (qa w.heap.size 2)=some x2/\wu.cell? (qa w.heap.size 3)=some x3/\wu.cell? (qa w.heap.size 4)=some x4/\(∀ i,wu.frozen? (qa w.heap.size i)=false)/\w.heap.size<wu.heap.size:=by
 have h:wu.heap[w.heap.size]? = some (.cells #[x0,x1,x2,x3,x4] t):=(hb.block w.heap.size (by show w.heap.size<(w.alloc _).heap.size;simp)).trans (heap_newP w _);exact jt
theorem zog {A:Nat->Prop} {w:World}:∀ (l:List ByteArray),(∀ s ∈ l,s.size<=maxLen)->zav w A (zak l) (strV l)
 | [],_=>.nil
 | s :: r,h=>.cons (zx0 (h s aA)) (zog r fun x hx=>h x (by simp [hx]))
theorem z4c {w:World} {B:Nat} {v:Value} {l:List ByteArray} (h:w.ownsRow B 9 1 v l.length (strV l)) (hs:∀ s ∈ l,s.size<=maxLen):∀ a cap,v = .slice a l.length cap->EAt w (B<=·) a l.length (zak l):=by
 rintro a cap rfl;exact EAt.of_own h (fun _ h=>h) (zog l hs)
theorem z4d (m:Mo) (v:Value) (a1:OA) (c1:Nat) (a2:OA) (c2:Nat) (a3:OA) (c3:Nat) (a4:OA) (c4:Nat) (l:List Fc) (al:OA) (cl:Nat) (w:World) (hM:MoAt w Tt m v a1 c1 a2 c2 a3 c3 a4 c4) (he:m.err=0) (hF:DAt w Tt al l.length (z61 l)) (CC:l.length<=3) (GA:∀ f ∈ l,f.items.length<=16) :
 qc 64 #[v,.slice al l.length cl] w fun e w'=>z00 w.heap.size (zkg m l) e w'/\qb w w':=by
 obtain rfl:=hM.val;have HM:=hid hM;have Hr:=z0s he;have Oj:=hid (zfr he);have Lm:=hid hF;have Mv:=hid GA;have HC:=hid (zjj m _ a1 c1 a2 c2 a3 c3 a4 c4 ((w.alloc (kzG m.name a1 m.uses.length c1 a2 m.decls.length c2 a3 m.procs.length c3 a4 m.main.length c4)).alloc (kzC ⟨#[]⟩ none 0 0 0 none 0 0 none 0 0)) (hM.later (bl2 _ _ _)) Hr)
 have QB:Hid ((za8 m).length<=16):=by have h1:=Hr.decls;have h2:=Hr.procs;show (za8 m).length<=16;rw [zgw];omega
 have Kr:=Hr.decls;have Ps:=Hr.procs;clear hM hF GA he Hr;go_enter Tryz.func64,Tryz.ntmps64;go_wp2_with fail;refine HC.out.mono ?_;rintro e w1 ⟨⟨ai,ci,rfl,hit⟩,A6⟩;have A8:=hid (thenB (bl2 w _ _) A6);have Ao:=A6.size;simp at Ao;have P0:=hid ((A6.block w.heap.size aF).trans (zab (heap_newP w _)));have P1:Hid (w1.heap[w.heap.size+1]? = some (kzC ⟨#[]⟩ none 0 0 0 none 0 0 none 0 0)):=(A6.block (w.heap.size+1) aA).trans dT;obtain ⟨HI,HF⟩:=zpu hit;have Li:=hid HI;have Ln:=hid HF;have I6:=@run_makeMap Tryz.prog;have Ld:=hid ((zmr.made w1).later (al1 _ (.cells #[.map (some w1.heap.size)] 189)));have Ti:=hid (zl9 HI (R:=w1.heap.size) (vaa _));have Bl:=hid (zl5 (fun _ _=>none) w1.heap.size 0 ⟨#[]⟩ 0 (za8 m) ai ci ((w1.alloc (.map #[] 0)).alloc (.cells #[.map (some w1.heap.size)] 189)) Ld.out (vaf _) (HI.later (bl2 _ _ _)) HF (by have:=QB.out;omega) ae Ti.out)
 clear A6 hit HI HF HC;go_wp2_with fail;refine Bl.out.mono ?_;rintro e w2 ⟨rfl,hkm,Be⟩
 have Jy:Hid (zmr w2 w1.heap.size (za8 m).length (z62 m)):=by have:=hkm;rw [vaz] at this;exact this
 have HE:=hid Be;clear hkm Be Bl I6 Ld;go_wp2_with fail
 go_loopw [9,10,30] (fun _ _ i wr=>∃ (j n:Nat),j<=l.length/\i=qi j/\n<=16+16*j/\zmr wr w1.heap.size n (zi1 (z62 m) (l.take j))/\Keeps w1.heap.size ((w1.alloc (.map #[] 0)).alloc (.cells #[.map (some w1.heap.size)] 189)) wr) (fun _ _ i _=>l.length - (intOf i).toNat)
 case atStart=>exact ⟨0,_,vaf _,rfl,by have:=QB.out;omega,Jy.out,HE.out⟩
 case round =>
  clear Jy HE;obtain ⟨j,n,hj,rfl,hn,hkm,Be⟩:=hrel;have Jy:=hid hkm;have HE:=hid Be;have C1:=Be.size;simp at C1;have nb:wr.heap[w1.heap.size+1]? = some (.cells #[.map (some w1.heap.size)] 189):=(Be.block _ aA ae).trans (by simpa using heap_newP (w1.alloc (.map #[] 0)) (.cells #[.map (some w1.heap.size)] 189));have T6:=hid nb
  have k0:wr.cell? ⟨w1.heap.size+1,0,none⟩=some (.map (some w1.heap.size)):=by rw [vep nb];rfl
  have FS:=lt_of_heap nb;have Cm:Hid (qb w wr):=Keeps.below (thenB A8.out (bl2 _ _ _)) HE.out ae aF;clear hkm Be nb
  by_cases A0:j<l.length
  . obtain ⟨b,off,aj,cj,rfl,Av,x0,x1,B4,hdj⟩:=(Lm.out.later Cm.out).fc j A0
    obtain ⟨b',BN,aj',cj',Ee,hbl0,_,x1',_,hdj0⟩:=Lm.out.fc j A0
    have PF:aj'=aj:=by
     have e0:=vab Ee
     injection e0 with e1 e2
     subst e1 e2;have:=(Cm.out.cell (p:=⟨b,off+j*2+1,none⟩) hbl0).trans x1';rw [this] at x1;have:=vab x1;injection this
    subst PF;obtain ⟨DT,HFj⟩:=zl8 hdj;have PH:=zl9 (zl8 hdj0).1 (R:=w1.heap.size) ae;have Sp:=Mv.out l[j] (vah _)
    have C3:Hid (zjl (zi1 (z62 m) (l.take j)) l[j].name ((j:Int)+1) l[j].items=zi1 (z62 m) (l.take (j+1))):=by
     show _=zi1 (z62 m) (l.take (j+1));rw [vag A0,ztz,vbg,vdv ae]
    have JR:IntKind.i64.wrap ((j:Int)+1)=(j:Int)+1:=aK
    clear Ee hbl0 x1' hdj hdj0;generalize l[j]=f at *;have BM:=hid (zl5 (zi1 (z62 m) (l.take j)) w1.heap.size n f.name ((j:Int)+1) f.items aj' cj (wr.alloc (.cells #[.string f.name,.slice aj' f.items.length cj] 30)) (Jy.out.later (al1 _ _)) B4 (DT.later (al1 _ _)) HFj ae ae PH);clear B4 DT HFj PH;go_wp2_with fail;refine BM.out.mono ?_;rintro e w3 ⟨rfl,hkm3,hke3⟩;rw [C3.out] at hkm3;have OB:=hid hkm3;have JB:=hid ((HE.out.alloc (.cells #[.string f.name,.slice aj' f.items.length cj] 30)).trans hke3);clear hkm3 hke3 BM;go_wp2_with fail;go_roundw
    case rel=>exact ⟨j+1,n+f.items.length,ae,aR,ae,OB.out,JB.out⟩
    case measure=>simp [intOf];omega
  . obtain rfl:j=l.length:=by omega
    have Th:Hid (zm5 wr (.map (some w1.heap.size)) (zel m l)):=by have:=Jy.out.known;rw [vau] at this;exact this
    have Q0:Hid (wr.heap[w.heap.size]? = some (kzG m.name a1 m.uses.length c1 a2 m.decls.length c2 a3 m.procs.length c3 a4 m.main.length c4)):=(HE.out.block _ aF ae).trans (zab (zab P0.out));have Q1:Hid (wr.heap[w.heap.size+1]? = some (kzC ⟨#[]⟩ none 0 0 0 none 0 0 none 0 0)):=(HE.out.block _ aF ae).trans (zab (zab P1.out));have IG:=hid (fun W (hW:qb wr W)=>((zdw HM.out.uses).1.later (thenB Cm.out hW)));obtain ⟨x0,x1,x2,x3,x4,xf⟩:=zaa Q0.out;have Bt:=lt_of_heap Q0.out;have LG:=Oj.out.1;have SQ:=hid (zdw HM.out.uses).2;have QN:=hid (fun W (hW:qb wr W)=>zvz ((hW.block _ Bt).trans Q0.out));clear Jy HE k0;go_wp2_with fail
    obtain ⟨wL,hwL⟩:∃ x,x=wr:=⟨_,rfl⟩
    subst hwL
    go_cut [11] (fun v wc=>∃ (U:Nat) (au:OA) (cu:Nat),v=pq U 0/\wL.heap.size<=U/\Hid (qb wL wc)/\Hid (wc.heap[U]? = some (kzC m.name au m.uses.length cu (zb8 m) none 0 0 none 0 0))/\Hid (EAt wc (fun b=>wL.heap.size<=b/\b≠U) au m.uses.length (zak m.uses)))
    case first=>
     have K6:w.heap.size≠wL.heap.size:=ae
     have FF0:Hid (wL.cell? (qa w.heap.size 0)=some (.string m.name)/\wL.cell? (qa w.heap.size 1)=some (.slice a1 m.uses.length c1)):=⟨x0,x1⟩
     have FF:Hid (wL.drew.cell? (qa w.heap.size 0)=some (.string m.name)/\wL.drew.cell? (qa w.heap.size 1)=some (.slice a1 m.uses.length c1)):=⟨x0,x1⟩
     go_region_held_law (fun W=>W.cell? (qa w.heap.size 0)=some (.string m.name)/\W.cell? (qa w.heap.size 1)=some (.slice a1 m.uses.length c1)) (first | with_reducible exact FF.out | with_reducible exact zma EU FF.out _ | with_reducible exact zxn Bt FF0.out _ | with_reducible exact zma Bt FF0.out _ | with_reducible exact z64 K6 FF.out _ _ _ _ _)
      (first | (refine zkh rfl _ _ rfl m.uses a1 c1 rfl rfl (IG.out _ (by first | exact bdrew wL | exact zbg wL _)) ae ?_;intro vu wu hou Gv;have QJ:=hid (z4c hou SQ.out);obtain ⟨au,cu,rfl,_⟩:=ziz hou;clear hou;(first | (refine And.elim ?_ (zxo Gv);intro e0 B5;obtain ⟨e1,e2,e3,e4,ef,EW⟩:=B5;refine And.elim ?_ (QN.out wu (thenB (zbg wL _) Gv));intro f0 fr;obtain ⟨f1,f2,f3,f4,ff,EU⟩:=fr;have Mt:=hid (thenB (zbg wL _) Gv);have FF:=hid (And.intro f0 f1)) | (refine And.elim ?_ (QN.out wu (thenB (bdrew wL) Gv));intro f0 fr;obtain ⟨f1,f2,f3,f4,ff,EU⟩:=fr;have Mt:=hid (thenB (bdrew wL) Gv);have FF:=hid (And.intro f0 f1)))))
     . have HW:Hid (qb wL (wu.alloc (kzC m.name au m.uses.length cu (zb8 m) none 0 0 none 0 0))):=thenB Mt.out (al1 _ _)
       have HU:Hid ((wu.alloc (kzC m.name au m.uses.length cu (zb8 m) none 0 0 none 0 0)).heap[wu.heap.size]? = some (kzC m.name au m.uses.length cu (zb8 m) none 0 0 none 0 0)):=heap_newP _ _;have HA:Hid (EAt (wu.alloc (kzC m.name au m.uses.length cu (zb8 m) none 0 0 none 0 0)) (fun b=>wL.heap.size<=b/\b≠wu.heap.size) au m.uses.length (zak m.uses)):=(QJ.out au cu rfl).moves ⟨aA,fun b hb h=>⟨⟨h,ae⟩,(al1 _ _).block b hb⟩⟩;have hU:wL.heap.size<=wu.heap.size:=Mt.out.size;exact jX
     . have HW:Hid (qb wL (((((wu.setCell (qa wL.heap.size 0) (.string m.name)).setCell (qa wL.heap.size 1) (.slice au m.uses.length cu)).setCell (qa wL.heap.size 2) (qi (zb8 m))).setCell (qa wL.heap.size 3) (qs)).setCell (qa wL.heap.size 4) (qs))):=zd6 Mt.out (vaa _) _ _ _ _ _
       have HU:Hid ((((((wu.setCell (qa wL.heap.size 0) (.string m.name)).setCell (qa wL.heap.size 1) (.slice au m.uses.length cu)).setCell (qa wL.heap.size 2) (qi (zb8 m))).setCell (qa wL.heap.size 3) (qs)).setCell (qa wL.heap.size 4) (qs)).heap[wL.heap.size]? = some (kzC m.name au m.uses.length cu (zb8 m) none 0 0 none 0 0)):=heap_set (heap_set (heap_set (heap_set (heap_set ((Gv.block wL.heap.size (by show wL.heap.size<(wL.alloc _).heap.size;simp)).trans (heap_newP wL _)) _) _) _) _) _;have HA:Hid (EAt (((((wu.setCell (qa wL.heap.size 0) (.string m.name)).setCell (qa wL.heap.size 1) (.slice au m.uses.length cu)).setCell (qa wL.heap.size 2) (qi (zb8 m))).setCell (qa wL.heap.size 3) (qs)).setCell (qa wL.heap.size 4) (qs)) (fun b=>wL.heap.size<=b/\b≠wL.heap.size) au m.uses.length (zak m.uses)):=((QJ.out au cu rfl).moves ⟨vaa _,fun b hb h=>⟨(⟨by have:(wL.alloc _).heap.size<=b:=h;simp at this;omega,by have:(wL.alloc _).heap.size<=b:=h;simp at this;omega⟩:wL.heap.size<=b/\b≠wL.heap.size),rfl⟩⟩:EAt wu (fun b=>wL.heap.size<=b/\b≠wL.heap.size) au m.uses.length (zak m.uses)).moves ((zad.refl wu (fun b=>wL.heap.size<=b/\b≠wL.heap.size)).set5 (by intro k _ hk;exact hk.2) _ _ _ _ _)
       have hU:wL.heap.size<=wL.heap.size:=vaa _;exact jX
    case rest=>
     obtain ⟨U,au,cu,rfl,hU,HW,HU,HA⟩:=hcut;have Uq:=lt_of_heap HU.out;have T0:=hid ((HW.out.block _ Bt).trans Q0.out);have T1:=hid ((HW.out.block _ (lt_of_heap Q1.out)).trans Q1.out);have T2:=hid ((HW.out.block _ FS).trans T6.out);have CJ:=lt_of_heap Q1.out;clear x0 x1 x2 x3 x4 xf;generalize wc=W3 at *;obtain ⟨x0,x1,x2,x3,x4,xf⟩:=zaa T0.out;have N8:=lt_of_heap T0.out;have N7:=lt_of_heap T1.out;have N6:=lt_of_heap T2.out;have BB:=HW.out.size;go_wp2_with fail;clear x0 x1 x2 x3 x4 xf
     go_loopw [13,14,15,54] (fun _ _ _ i wt=>∃ (j:Nat) (A5:List Pt) (vp:Value),j<=m.procs.length/\i=qi j/\A5.length=j/\zcg (zel m l) (m.procs.take j) = .ok A5/\wt.heap[U]? = some (.cells #[.string m.name,.slice au m.uses.length cu,qi (zb8 m),vp,qs] 42)/\Row W3.heap.size 106 3 wt vp A5.length (zlu A5)/\Keeps U W3 wt) (fun _ _ _ i _=>m.procs.length - (intOf i).toNat)
     case atStart=>exact ⟨0,[],qs,vaf _,rfl,rfl,rfl,HU.out,Row.nil _ _ _ _,Keeps.refl _ _⟩
     case round=>
      clear HU;obtain ⟨j,A5,vp,hj,rfl,hacc,hpm,FO,Aa,Be⟩:=hrel;have Oi:=hid hpm;have Hh:=hid FO;have Ma:=hid Aa;have Qy:=hid Be;have TO:=Be.size;have PT:=lt_of_heap FO;have R0:=hid ((Be.block _ N8 ae).trans T0.out);have R1:=hid ((Be.block _ N7 ae).trans T1.out);have R2:=hid ((Be.block _ N6 ae).trans T2.out);have QO:Hid (qb wL wr):=Keeps.below HW.out Be hU ae;have Bv:=hid (thenB Cm.out QO.out);have Qw:=hid (Th.out.later QO.out);obtain ⟨x0,x1,x2,x3,x4,xf⟩:=zaa R0.out
      have n0:wr.cell? ⟨w1.heap.size+1,0,none⟩=some (.map (some w1.heap.size)):=by rw [vep R2.out];rfl
      have RC:=lt_of_heap R0.out;have Kf:=lt_of_heap R1.out;have RB:=lt_of_heap R2.out;clear hpm FO Aa Be
      by_cases A0:j<m.procs.length
      . obtain ⟨b,off,q1,d1,q2,d2,q3,d3,rfl,hx⟩:=(HM.out.procs.later Bv.out).pr j A0
        obtain ⟨Av,g0,g1,g2,g3,g4,DC,Et,Jd,B4⟩:=hx;obtain ⟨Pq,MR,FQ⟩:=Oj.out.2.2.2.1 m.procs[j] (vah _);have EM:=hid (fun c (he:zl7 (zel m l) m.procs[j] = .error c)=>zxm (zxl A0 Oi.out he));have Hk:=hid (fun y (he:zl7 (zel m l) m.procs[j] = .ok y)=>zt0 A0 Oi.out he);generalize m.procs[j]=p at *;have Df:=hid (z4a (zel m l) w1.heap.size p q1 d1 q2 d2 q3 d3 (wr.alloc (kzK p.name p.pub q1 p.params.length d1 q2 p.locals.length d2 q3 p.body.length d3)) (Qw.out.later (al1 _ _)) (DC.later (al1 _ _)) (Et.later (al1 _ _)) (Jd.later (al1 _ _)) Pq MR FQ);clear DC Et Jd Pq MR FQ B4 x0 x1 x2 x3 x4 xf;go_wp2_with fail;refine Df.out.mono ?_;rintro e w4 ⟨Am,Aj⟩;have Ap:=hid (thenB (al1 wr _) Aj);have Db:=Aj.size;simp at Db;clear Aj Df n0 g0 g1 g2 g3 g4
        cases hr:zl7 (zel m l) p with
        | error c=>
          rw [hr] at Am;obtain ⟨px,py,pa,pk,pc,rfl,Ai⟩:=Am;have HR:=hid (EM.out c hr);have v1:=(Ap.out.block _ Kf).trans R1.out;have Dk:=lt_of_heap v1;obtain ⟨r0,r1,r2,r3,r4,rf⟩:=zaa v1;clear hr v1;go_wp2_with fail;refine bodyPost_ret (v:=.tuple #[.agg #[.string ⟨#[]⟩,qs,qi 0,qs,qs],qi c]) dP rfl ⟨by rw [HR.out];exact ⟨rfl,Ai⟩,?_⟩;exact (zd6 (thenB Bv.out Ap.out) ae _ _ _ _ _).alloc aF _
        | ok t=>
          rw [hr] at Am;obtain ⟨pa,pc,rfl,hea⟩:=Am;have HR:=hid (Hk.out t hr);have EF:=hid ((Ap.out.block _ PT).trans Hh.out);have KW:Hid (Row W3.heap.size 106 3 (w4.alloc (kzL t.params t.locals pa t.body.length pc)) vp A5.length (zlu A5)):=(Ma.out.later Ap.out).alloc _;have QK:Hid (zav (w4.alloc (kzL t.params t.locals pa t.body.length pc)) (wr.heap.size+1<=·) t.ds [qi t.params,qi t.locals,.slice pa t.body.length pc]):=z4b (hea.moves (((zad.refl w4 _).alloc _).trans ⟨vaa _,fun b _ h=>⟨by simp at h;exact h,rfl⟩⟩));have L6:=hid (fun k hk=>(Ma.out.lt k hk).2);obtain ⟨o0,o1,o2,o3,o4,of⟩:=zaa EF.out;have NG:=lt_of_heap EF.out;have Lg:=hid (((Qy.out.later Ap.out)).alloc (kzL t.params t.locals pa t.body.length pc));clear hr hea
          go_wp2_with (at_builtin;refine zbv rfl (.tmp 69) (.tmp 71) 39 rfl W3.heap.size 106 _ 3 40 Tryz.underlying39 Tryz.infoPart rfl aq (w4.alloc (kzL t.params t.locals pa t.body.length pc)) vp A5.length (zlu A5) t.ds rfl KW.out #[qi t.params,qi t.locals,.slice pa t.body.length pc] _ aA rfl rfl (wr.heap.size+1<=·) QK.out ?_ ae aq aF ?_)
          . exact iS
          . intro g5 c5 w5 Bw At Cf
            have Lf:=hid (Lg.out.belowOf At);have II:=hid ((At.block _ ae).trans (zab EF.out));have Ba:=hid (Bw.set (p:=(qa U 3)) (by show U<W3.heap.size;omega) (.slice (some (qa g5 0)) (j+1) c5));have O3:Hid ((w5.setCell (qa U 3) (.slice (some (qa g5 0)) (j+1) c5)).heap[U]? = some (kzC m.name au m.uses.length cu (zb8 m) (some (qa g5 0)) (j+1) c5 none 0 0)):=heap_set II.out _;have OC:=hid (Lf.out.own 3 (.slice (some (qa g5 0)) (j+1) c5));obtain ⟨s0,s1,s2,s3,s4,sf⟩:=zaa II.out;have S5:=lt_of_heap II.out;clear Bw At KW QK o0 o1 o2 o3 o4 of Lf Lg;go_wp2_with fail;go_roundw
            case rel=>exact ⟨j+1,A5++[t],_,ae,aR,fi,HR.out,O3.out,by rw [z01,vaj,hacc];exact Ba.out,OC.out⟩
            case measure=>simp [intOf];omega
      . obtain rfl:j=m.procs.length:=by omega
        have Ql:Hid (zcg (zel m l) m.procs = .ok A5):=by have:=Oi.out;rw [vau] at this;exact this
        have C5:=hid (zkw 6 m.main Oj.out.2.2.2.2 (zel m l) (fun _=>none) (.map (some w1.heap.size)) (.map none) Tt a4 c4 wr Qw.out (zxk wr) (HM.out.main.later Bv.out));go_wp2_with fail;refine C5.out.mono ?_;rintro e w4 ⟨Am,Aj⟩;have Ap:=hid Aj;have Db:=Aj.size;have v1:=(Aj.block _ Kf).trans R1.out;have Dk:=lt_of_heap v1;obtain ⟨r0,r1,r2,r3,r4,rf⟩:=zaa v1;have EF:=hid ((Aj.block _ PT).trans Hh.out);clear Aj C5 v1 n0 x0 x1 x2 x3 x4 xf
        cases hr:zf2 (zel m l) (fun _=>none) m.main with
        | error c=>
          rw [hr] at Am;obtain ⟨rfl,Ai⟩:=Am;have HR:=hid (z0z Ql.out hr);clear hr;go_wp2_with fail;refine bodyPost_ret (v:=.tuple #[.agg #[.string ⟨#[]⟩,qs,qi 0,qs,qs],qi c]) dP rfl ⟨by rw [HR.out];exact ⟨rfl,Ai⟩,?_⟩;exact zd6 (thenB Bv.out Ap.out) ae _ _ _ _ _
        | ok bd=>
          rw [hr] at Am;obtain ⟨ab,cb,rfl,hea⟩:=Am;have HR:=hid (z63 Ql.out hr);obtain ⟨ap,cp,rfl,hep⟩:=Ma.out.slice;obtain ⟨o0,o1,o2,o3,o4,of⟩:=zaa EF.out;have NG:=lt_of_heap EF.out
          have Up:U≠w.heap.size+1:=ae
          have FC:Hid (∀ u v0 v1 v2 v3 v4,∀ A:Nat->Prop,(∀ b,A b->w.heap.size+2<=b/\b≠U)->zad w4 A (set5 (w4.setCell (qa U 4) u) (w.heap.size+1) v0 v1 v2 v3 v4) (w.heap.size<=·)):=fun u v0 v1 v2 v3 v4 A hA=>
           (((zad.refl w4 A).set (p:=(qa U 4)) (fun b _ hb=>(hA b hb).2) u).set5 (b:=w.heap.size+1) (fun b _ hb=>by have:=(hA b hb).1;omega) v0 v1 v2 v3 v4).trans ⟨vaa _,fun b _ h=>⟨by have:=(hA b h).1;show w.heap.size<=b;omega,rfl⟩⟩
          have Mu:Hid (EAt w4 (fun b=>wL.heap.size<=b/\b≠U) au m.uses.length (zak m.uses)):=(HA.out.moves ((zad.refl W3 _).keeps Qy.out (fun b _ h=>h.2))).later Ap.out;have CY:Hid (EAt w4 (W3.heap.size<=·) ap A5.length (zlu A5)):=hep.later Ap.out;have Ta:Hid (EAt w4 (wr.heap.size<=·) ab bd.length (zdu bd)):=hea;have TN:=Cm.out.size;clear hr hea hep Ma;go_wp2_with fail;refine bodyPost_ret (v:=.tuple #[.agg #[.string m.name,.slice au m.uses.length cu,qi (zb8 m),.slice ap A5.length cp,.slice ab bd.length cb],qi 0]) (by simp [results,Tryz.results64,go_sem,r0,r1,r2,r3,r4,Dk,hacc]) rfl ⟨?_,?_⟩
          . rw [HR.out]
            exact ⟨au,cu,ap,cp,ab,cb,rfl,Mu.out.moves (FC.out _ _ _ _ _ _ _ (fun b h=>⟨by have:=h.1;omega,h.2⟩)),CY.out.moves (FC.out _ _ _ _ _ _ _ (fun b h=>by have:W3.heap.size<=b:=h;exact ⟨ae,ae⟩)),Ta.out.moves (FC.out _ _ _ _ _ _ _ (fun b h=>by have:wr.heap.size<=b:=h;exact ⟨ae,ae⟩))⟩
          . exact zd6 ((thenB Bv.out Ap.out).setCell (p:=(qa U 4)) (by show w.heap.size<=U;omega) _) ae _ _ _ _ _
def za9 (p:Fc × ByteArray):Bool:=Fx.zmp p.1 == 0&&decide (p.1.name=p.2)
def zes (m:Mo) (l:List Fc):Except Int Un:=
 if chkM m≠0 then .error (chkM m) else if l.length≠m.uses.length then .error 8 else if (l.zip m.uses).all za9 then zkg m l else .error 1
theorem z4e {m:Mo} {l:List Fc} (hl:l.length=m.uses.length) (j:Nat) (h:j<l.length):((l.zip m.uses).take (j+1)).all za9=(((l.zip m.uses).take j).all za9&&za9 (l[j],m.uses[j]' ae)):=by
 have hz:j<(l.zip m.uses).length:=by rw [vdw];omega
 rw [vag hz,vbp,vee];simp
theorem z65 {m:Mo} {l:List Fc} (hl:l.length=m.uses.length) (j:Nat) (h:j<l.length) (hf:za9 (l[j],m.uses[j]' ae)=false):(l.zip m.uses).all za9=false:=by
 have hz:j<(l.zip m.uses).length:=by rw [vdw];omega
 rw [vcs];exact ⟨(l.zip m.uses)[j],vah _,by rw [vee];simp [hf]⟩
theorem z02 {m:Mo} {l:List Fc} (hl:l.length=m.uses.length) (h:(l.zip m.uses).all za9=true):∀ f ∈ l,f.items.length<=16:=by
 intro f hf;obtain ⟨j,hj,rfl⟩:=vba hf
 have hz:j<(l.zip m.uses).length:=by rw [vdw];omega
 have:=vas.1 h _ (vah hz);rw [vee] at this;unfold za9 at this;simp only [vac,beq_iff_eq] at this;have hc:=this.1;unfold Fx.zmp at hc
 by_cases GA:16<l[j].items.length
 . rw [if_pos GA] at hc;cases hc
 . omega
section
variable {P:Program} {ops:Array Oper} {Q:Exit->Act->World->Prop} {md:Region.Mode} {S:World->Prop} {o1:Op} {o2:TypeId} {o3:String} {o4:Array Edge} {o5:Option (Nat × Bool)} {v:Value} {AB:Nat} {Ar:Array Bool} {a:Act} {w:World}
theorem tq (i d:Nat) (hS:S w) (h:wpAnyH P md ops Q S AB (Ar.setIfInBounds i true) (a.put (some d) v) w) (hi:ops[i]? = some (Oper.mk (some d) o1 o2 o3 o4 o5):=by exact rfl)
 (hg:Region.wanted (Oper.mk (some d) o1 o2 o3 o4 o5) (yielded ops a.tmps)=true:=by exact rfl) (hy:∀ w,S w->(execOp a.eval (Oper.mk (some d) o1 o2 o3 o4 o5)).run P w = .ok (.value v) w:=by (intro w hSw;(try dsimp only at hSw);go_simp;(try with_reducible rfl)))
 (hb:(Region.noSelect ops&&(Region.free md ops Ar i&&(Region.ready md ops Ar).contains i))=true:=by kernel_rfl)
 (hQ:∀ c a w,Q (.panic c) (a.put (some d) v) w->Q (.panic c) a w:=by exact fun _ _ _ h=>h):wpAnyH P md ops Q S (AB+1) Ar a w:=by
 simp only [vac] at hb;exact wpAnyH_take hi hb.1 hb.2.1 hb.2.2 hQ (Or.inl ⟨hg,hy⟩) hS h
theorem tu (i d:Nat) (hS:S w) (h:wpAnyH P md ops Q S AB (Ar.setIfInBounds i true) (a.put (some d) undef) w) (hi:ops[i]? = some (Oper.mk (some d) o1 o2 o3 o4 o5):=by exact rfl)
 (hg:Region.wanted (Oper.mk (some d) o1 o2 o3 o4 o5) (yielded ops a.tmps)=false:=by exact rfl)
 (hb:(Region.noSelect ops&&(Region.free md ops Ar i&&(Region.ready md ops Ar).contains i))=true:=by kernel_rfl)
 (hQ:∀ c a w,Q (.panic c) (a.put (some d) undef) w->Q (.panic c) a w:=by exact fun _ _ _ h=>h):wpAnyH P md ops Q S (AB+1) Ar a w:=by
 simp only [vac] at hb;exact wpAnyH_take hi hb.1 hb.2.1 hb.2.2 hQ (Or.inr ⟨hg,rfl⟩) hS h
end
theorem zoh (a b:ByteArray):(a.toList == b.toList)=decide (a=b):=by
 exact iI
theorem zt1 (f:Fc) (h:Fx.zmp f≠0):Fx.zmp f=1\/Fx.zmp f=2:=by
 unfold Fx.zmp at h ⊢;split
 . exact Or.inr rfl
 . rename_i h1
   rw [if_neg h1] at h;split
   . rename_i h2;rw [if_pos h2] at h;exact absurd rfl h
   . exact Or.inl rfl
theorem fits_cells {w W:World} {x0 x1 v1 z:Value} {t:TypeId} {b bu o:Nat} (hW:Below (w.alloc (.cells #[x0,x1] t)).heap.size (w.alloc (.cells #[x0,x1] t)) W) (h1:w.cell? (qa b 1)=some v1) (hb:b<w.heap.size) (h2:w.cell? (qa bu o)=some z) (Gv:bu<w.heap.size) :
 W.cell? (qa w.heap.size 0)=some x0/\W.cell? (qa w.heap.size 1)=some x1/\W.cell? (qa b 1)=some v1/\W.cell? (qa bu o)=some z:=by
 obtain ⟨k0,k1,_⟩:=zcr ((hW.block w.heap.size aA).trans (heap_newP w _));exact ⟨k0,k1,(hW.cell (p:=(qa b 1)) (by show b<_;simp;omega)).trans (((al1 w _).cell (p:=(qa b 1)) hb).trans h1),(hW.cell (p:=(qa bu o)) (by show bu<_;simp;omega)).trans (((al1 w _).cell (p:=(qa bu o)) Gv).trans h2)⟩
theorem zt2 (m:Mo) (v:Value) (a1:OA) (c1:Nat) (a2:OA) (c2:Nat) (a3:OA) (c3:Nat) (a4:OA) (c4:Nat) (l:List Fc) (al:OA) (cl:Nat) (w:World) (hM:MoAt w Tt m v a1 c1 a2 c2 a3 c3 a4 c4) (hF:DAt w Tt al l.length (z61 l)) :
 qc 21 #[v,.slice al l.length cl] w fun e w'=>z00 w.heap.size (zes m l) e w'/\qb w w':=by
 obtain rfl:=hM.val;have HM:=hid hM;have Lm:=hid hF;have Bz:=hF.bound;have Gv:=hM.uses.bound;have HC:=hid (zgx m _ a1 c1 a2 c2 a3 c3 a4 c4 ((w.alloc (kzG m.name a1 m.uses.length c1 a2 m.decls.length c2 a3 m.procs.length c3 a4 m.main.length c4)).alloc (kzC ⟨#[]⟩ none 0 0 0 none 0 0 none 0 0)) (hM.later (bl2 _ _ _)));clear hM hF
 obtain ⟨r,hr⟩:∃ r,r=zes m l:=⟨_,rfl⟩
 rw [← hr];have GD:=hid hr;clear hr;go_enter Tryz.func21,Tryz.ntmps21;go_wp2_with fail;refine HC.out.mono ?_;rintro e w1 ⟨rfl,A6⟩;have A8:=hid (thenB (bl2 w _ _) A6);have Ao:=A6.size;simp at Ao;have P0:=hid ((A6.block w.heap.size aF).trans (zab (heap_newP w _)));have P1:Hid (w1.heap[w.heap.size+1]? = some (kzC ⟨#[]⟩ none 0 0 0 none 0 0 none 0 0)):=(A6.block (w.heap.size+1) aA).trans dT;obtain ⟨x0,x1,x2,x3,x4,xf⟩:=zaa P0.out;obtain ⟨r0,r1,r2,r3,r4,rf⟩:=zaa P1.out;have I7:=lt_of_heap P0.out;have Dk:=lt_of_heap P1.out;clear A6 HC
 by_cases hc:chkM m=0
 case neg=>
  have HR:Hid (r = .error (chkM m)):=GD.out.trans (if_pos hc);go_wp2_with fail;refine bodyPost_ret (v:=.tuple #[.agg #[.string ⟨#[]⟩,qs,qi 0,qs,qs],qi (chkM m)]) dQ rfl ⟨by rw [HR.out];exact ⟨rfl,hc⟩,?_⟩;exact zd6 A8.out ae _ _ _ _ _
 have AY:Hid (r=if l.length≠m.uses.length then .error 8 else if (l.zip m.uses).all za9 then zkg m l else .error 1):=GD.out.trans (if_neg (by simp [hc]));have HZ:=hid hc;rw [hc];clear hc GD
 by_cases Ah:l.length=m.uses.length
 case neg=>
  have HR:Hid (r = .error 8):=AY.out.trans (if_pos Ah)
  have K6:¬ ((l.length:Int)=m.uses.length):=ae
  go_wp2_with fail;refine bodyPost_ret (v:=.tuple #[.agg #[.string ⟨#[]⟩,qs,qi 0,qs,qs],qi 8]) dQ rfl ⟨di,?_⟩;exact zd6 A8.out ae _ _ _ _ _
 have An:Hid (r=if (l.zip m.uses).all za9 then zkg m l else .error 1):=AY.out.trans (if_neg (by simp [Ah]));have Em:=hid Ah;have LG:=(zfr (zpv HZ.out)).1
 have RE:(l.length:Int)=(m.uses.length:Int):=ae
 clear AY Ah;go_wp2_with fail;clear RE
 go_loopw [7,8,24] (fun _ _ i wr=>∃ j:Nat,j<=l.length/\i=qi j/\((l.zip m.uses).take j).all za9=true/\qb w1 wr) (fun _ _ i _=>l.length - (intOf i).toNat)
 case atStart=>exact ⟨0,vaf _,rfl,rfl,Below.refl _ _⟩
 case round=>
  obtain ⟨j,hj,rfl,A7,EA⟩:=hrel;have QP:=hid A7;have HB:=hid EA;have C1:=EA.size;have Bv:=hid (thenB A8.out EA);have R0:=hid ((EA.block _ I7).trans P0.out);have R1:=hid ((EA.block _ Dk).trans P1.out);clear A7 EA x0 x1 x2 x3 x4 xf r0 r1 r2 r3 r4 rf;obtain ⟨x0,x1,x2,x3,x4,xf⟩:=zaa R0.out;obtain ⟨r0,r1,r2,r3,r4,rf⟩:=zaa R1.out;have N0:=lt_of_heap R0.out;have N2:=lt_of_heap R1.out
  by_cases A0:j<l.length
  . have PE:j<m.uses.length:=by have:=Em.out;omega
    obtain ⟨b,off,aj,cj,rfl,Av,y0,y1,B4,hdj⟩:=(Lm.out.later Bv.out).fc j A0;obtain ⟨bu,ou,rfl,NB,z0,hzm⟩:=(HM.out.uses.later Bv.out).str j PE;obtain ⟨DT,HFj⟩:=zl8 hdj;have Um:=hdj.bound;have C3:=hid (z4e Em.out j A0);have GH:=hid (z65 Em.out j A0)
    have Jj:(j:Int)<m.uses.length:=ae
    generalize l[j]=f at *;generalize m.uses[j]'PE=u at *;have FJ:=hid (fun W (hW:qb wr W)=>Fx.zm9 f aj cj W (DT.later hW) ae B4 HFj);have HS:=hid (fun W (hW:Below (wr.alloc (.cells #[.string f.name,.slice aj f.items.length cj] 30)).heap.size (wr.alloc (.cells #[.string f.name,.slice aj f.items.length cj] 30)) W)=>(fits_cells hW x1 N0 z0 NB:W.cell? (qa wr.heap.size 0)=some (.string f.name)/\W.cell? (qa wr.heap.size 1)=some (.slice aj f.items.length cj)/\W.cell? (qa w.heap.size 1)=some (.slice (some (qa bu ou)) m.uses.length c1)/\W.cell? ⟨bu,ou+j,none⟩=some (.string u)));have FF:=hid (HS.out _ (bdrew _));clear hdj DT HFj
    by_cases G0:Fx.zmp f=0
    . cases LI:decide (f.name=u) with
      | true=>
        have Jz:Hid (za9 (f,u)=true):=by show za9 (f,u)=true;unfold za9;simp only [G0,LI];rfl
        have Fv:Hid (((l.zip m.uses).take (j+1)).all za9=true):=C3.out.trans (by rw [QP.out,Jz.out];rfl);rw [G0] at FJ;have Cs:(f.name.toList == u.toList)=true:=(zoh _ _).trans LI;clear C3 GH G0;go_wp2_with fail
        go_region_held (fun W=>W.cell? (qa wr.heap.size 0)=some (.string f.name)/\W.cell? (qa wr.heap.size 1)=some (.slice aj f.items.length cj)/\W.cell? (qa w.heap.size 1)=some (.slice (some (qa bu ou)) m.uses.length c1)/\W.cell? ⟨bu,ou+j,none⟩=some (.string u)) (exact FF.out)
         (first | (go_at_call 19;refine (FJ.out _ (zbg wr _)).mono ?_;rintro e w3 ⟨rfl,A9⟩;have Af:=hid (thenB (bdrew (wr.alloc (.cells #[.string f.name,.slice aj f.items.length cj] 30))) A9);have FF:=hid (HS.out _ Af.out);clear A9))
        have Eo:=hid (thenB (thenB Bv.out (al1 wr (.cells #[.string f.name,.slice aj f.items.length cj] 30))) Af.out);have BB:=Af.out.size;simp at BB;have v1:=(Af.out.block _ aF).trans (zab (o:=(.cells #[.string f.name,.slice aj f.items.length cj] 30)) R1.out);clear r0 r1 r2 r3 r4 rf;obtain ⟨r0,r1,r2,r3,r4,rf⟩:=zaa v1;have Eu:=lt_of_heap v1;clear v1;go_wp2_with fail;go_roundw
        case rel=>exact ⟨j+1,ae,aR,Fv.out,thenB (thenB HB.out (al1 wr _)) Af.out⟩
        case measure=>simp [intOf];omega
      | false=>
        have Jz:Hid (za9 (f,u)=false):=by show za9 (f,u)=false;unfold za9;simp only [LI,Bool.and_false]
        rw [G0] at FJ;have Cs:(f.name.toList == u.toList)=false:=(zoh _ _).trans LI;clear C3 G0;have HR:Hid (r = .error 1):=An.out.trans (if_neg (by rw [GH.out Jz.out];decide));go_wp2_with fail
        go_region_held (fun W=>W.cell? (qa wr.heap.size 0)=some (.string f.name)/\W.cell? (qa wr.heap.size 1)=some (.slice aj f.items.length cj)/\W.cell? (qa w.heap.size 1)=some (.slice (some (qa bu ou)) m.uses.length c1)/\W.cell? ⟨bu,ou+j,none⟩=some (.string u)) (exact FF.out)
         (first | (go_at_call 19;refine (FJ.out _ (zbg wr _)).mono ?_;rintro e w3 ⟨rfl,A9⟩;have Af:=hid (thenB (bdrew (wr.alloc (.cells #[.string f.name,.slice aj f.items.length cj] 30))) A9);have FF:=hid (HS.out _ Af.out);clear A9))
        have Eo:=hid (thenB (thenB Bv.out (al1 wr (.cells #[.string f.name,.slice aj f.items.length cj] 30))) Af.out);have BB:=Af.out.size;simp at BB;have v1:=(Af.out.block _ aF).trans (zab (o:=(.cells #[.string f.name,.slice aj f.items.length cj] 30)) R1.out);clear r0 r1 r2 r3 r4 rf;obtain ⟨r0,r1,r2,r3,r4,rf⟩:=zaa v1;have Eu:=lt_of_heap v1;clear v1;go_wp2_with fail;refine bodyPost_ret (v:=.tuple #[.agg #[.string ⟨#[]⟩,qs,qi 0,qs,qs],qi 1]) b8 rfl ⟨di,?_⟩;exact zd6 Eo.out ae _ _ _ _ _
    . have Jz:Hid (za9 (f,u)=false):=by show za9 (f,u)=false;unfold za9;simp only [beq_eq_false_iff_ne.2 G0,vej]
      clear C3
      rcases zt1 f G0 with Bk | C7
      . rw [Bk] at FJ
        clear G0 Bk;exact fw
      . rw [C7] at FJ
        clear G0 C7;exact fw
  . obtain rfl:j=l.length:=by omega
    have FS:¬ (l.length<m.uses.length):=by have:=Em.out;omega
    have QQ:Hid ((l.zip m.uses).all za9=true):=by have:=QP.out;rw [vav (by rw [vdw];omega)] at this;exact this
    have HR:Hid (r=zkg m l):=An.out.trans (if_pos QQ.out);have C5:=hid (z4d m _ a1 c1 a2 c2 a3 c3 a4 c4 l al cl wr (HM.out.later Bv.out) (zpv HZ.out) (Lm.out.later Bv.out) (by have:=Em.out;omega) (z02 Em.out QQ.out));go_wp2_with fail;refine C5.out.mono ?_;rintro e w5 ⟨Am,As⟩;have At:=hid (thenB Bv.out As);have Cf:=As.size;have v1:=(As.block _ N2).trans R1.out;clear r0 r1 r2 r3 r4 rf;obtain ⟨r0,r1,r2,r3,r4,rf⟩:=zaa v1;have Ka:=lt_of_heap v1;clear As v1 C5
    cases hq:zkg m l with
    | error c=>
      rw [hq] at Am;obtain ⟨rfl,Ai⟩:=Am;have Oe:Hid (r = .error c):=HR.out.trans hq;clear hq;go_wp2_with fail;refine bodyPost_ret (v:=.tuple #[.agg #[.string ⟨#[]⟩,qs,qi 0,qs,qs],qi c]) dR rfl ⟨by rw [Oe.out];exact ⟨rfl,Ai⟩,?_⟩;exact zd6 At.out ae _ _ _ _ _
    | ok q=>
      rw [hq] at Am;obtain ⟨g1,k1,g2,k2,g3,k3,rfl,he1,Fl,he3⟩:=Am;have Oe:Hid (r = .ok q):=HR.out.trans hq
      have FC:Hid (∀ v0 v1 v2 v3 v4,zad w5 (wr.heap.size<=·) (set5 w5 (w.heap.size+1) v0 v1 v2 v3 v4) (w.heap.size<=·)):=fun v0 v1 v2 v3 v4=>
       ((zad.refl w5 (wr.heap.size<=·)).set5 (b:=w.heap.size+1) (fun b _ hb=>by have:wr.heap.size<=b:=hb;omega) v0 v1 v2 v3 v4).trans ⟨vaa _,fun b _ h=>⟨by have:wr.heap.size<=b:=h;show w.heap.size<=b;omega,rfl⟩⟩
      have C0:=hid he1;have BE:=hid Fl;have JB:=hid he3;clear hq he1 Fl he3;go_wp2_with fail;refine bodyPost_ret (v:=.tuple #[.agg #[.string q.name,.slice g1 q.uses.length k1,qi q.data,.slice g2 q.parts.length k2,.slice g3 q.main.length k3],qi 0]) dR rfl ⟨?_,?_⟩
      . rw [Oe.out]
        exact ⟨g1,k1,g2,k2,g3,k3,rfl,C0.out.moves (FC.out _ _ _ _ _),BE.out.moves (FC.out _ _ _ _ _),JB.out.moves (FC.out _ _ _ _ _)⟩
      . exact zd6 At.out ae _ _ _ _ _
end Go.Proofs.YtndkhgakfodldaaGreatDoor

namespace Go.Proofs.YtndkhgakfodldaaGreatDoor
open Go.RowKit
set_option linter.unusedSimpArgs false
set_option linter.unusedVariables false
theorem z03 {n:Int} (h1 : -1000000000000000<=n) (h2:n<=1000000000000000):(Lit.int .i64 n).wf=true:=by
 simp only [Lit.wf,vac,decide_eq_true_eq];exact ⟨by show (-9223372036854775808:Int)<=n;omega,by show n<=(9223372036854775807:Int);omega⟩
end Go.Proofs.YtndkhgakfodldaaGreatDoor

namespace Go.Proofs.YtndkhgakfodldaaGreatDoor
set_option maxRecDepth 100000
set_option maxHeartbeats 800000
open Go.RowKit Go.Maps Go.WideMaps
set_option linter.unusedSimpArgs false
set_option linter.unusedVariables false
theorem zp0 {W:World} {base:Nat} {t:TypeId} {sz:Nat} {a:OA} {n cap:Nat} {xs:List Value} {ds:List D} (h:W.ownsRow base t sz (.slice a n cap) n xs) (hx:zaq W Tt ds xs) (h1:n<=ds.length) (h2:ds.length<=17592186044416):DAt W Tt a n ds:=by
 refine ⟨h1,h2,?_⟩
 rcases h.2 with ⟨e,h0⟩ | ⟨g,cap',AD,e,_,hg,_⟩
 . exact Or.inl h0
 . cases e
   refine Or.inr ⟨g,0,xs,rfl,trivial,lt_of_heap hg,fun j u hj=>?_,hx⟩;exact iO
def zft (n:Int):Prop:=-1000000000000000<=n/\n<=1000000000000000
theorem zmb {W:World} {n:Int} (h:zft n):zdg W Tt (.int n) (qi n):=zdt (z03 h.1 h.2)
theorem zv0 {W:World}:∀ (l:List Gi),(∀ i ∈ l,zft i.op/\zft i.a/\zft i.b)->zaq W Tt (zxw l) (zeb l)
 | [],_=>zaq.nil
 | i :: r,h=>by
   have h1:=h i (var ..);simp only [zxw,zeb,vbj];exact zaq.append (.cons (zmb h1.1) (.cons (zmb h1.2.1) (.cons (zmb h1.2.2) .nil))) (zv0 r (fun j hj=>h j (vak _ hj)))
theorem zv1 {W:World}:∀ (l:List Gf),(∀ i ∈ l,zft i.at_/\zft i.kind/\zft i.m)->zaq W Tt (z4r l) (z4n l)
 | [],_=>zaq.nil
 | i :: r,h=>by
   have h1:=h i (var ..);simp only [z4r,z4n,vbj];exact zaq.append (.cons (zmb h1.1) (.cons (zmb h1.2.1) (.cons (zmb h1.2.2) .nil))) (zv1 r (fun j hj=>h j (vak _ hj)))
theorem zrx {W:World}:∀ (l:List Int),(∀ i ∈ l,zft i)->zaq W Tt (zgf l) (intV l)
 | [],_=>zaq.nil
 | i :: r,h=>.cons (zmb (h i (var ..))) (zrx r (fun j hj=>h j (vak _ hj)))
theorem zry {W:World}:∀ (l:List ByteArray),(∀ s ∈ l,s.size<=maxLen)->zaq W Tt (zak l) (strV l)
 | [],_=>zaq.nil
 | i :: r,h=>.cons (ze7 (h i (var ..))) (zry r (fun j hj=>h j (vak _ hj)))
theorem zv2 (l:List Gi):(zxw l).length=l.length*3:=by
 induction l with
 | nil=>rfl
 | cons x r ih=>simp only [zxw,vbj,vaj,vaw] at ih ⊢;rw [ih];simp [Gi.ds];omega
theorem zv3 (l:List Gf):(z4r l).length=l.length*3:=by
 induction l with
 | nil=>rfl
 | cons x r ih=>simp only [z4r,vbj,vaj,vaw] at ih ⊢;rw [ih];simp [Gf.ds];omega
theorem z5b (N:Int):∀ (e:List Gf) (lo:Int),lo<=N->e.Pairwise (fun f g=>f.at_<g.at_)->(∀ f ∈ e,lo<=f.at_/\f.at_<N)->(e.length:Int)<=N - lo
 | [],lo,h,_,_=>aF
 | f :: r,lo,h,hp,hb=>by
   rw [List.pairwise_cons] at hp;have h1:=hb f (var ..);have:=z5b N r (f.at_+1) ae hp.2 (fun g hg=>⟨by have:=hp.1 g hg;omega,(hb g (vak _ hg)).2⟩);rw [vaw];omega
theorem z66 {u:Un} {o:Ob} (h:zxv u = .ok o):o=zqa u/\zfg u zjn zi9=true/\Go.Lib.containsS u.uses u.name=false/\zh4 (genS u)=false:=by
 unfold zxv at h
 split at h
 . cases h
 . rename_i h1
   split at h
   . cases h
   . rename_i h2
     cases h;simp only [vcv,vat] at h1;exact ⟨rfl,by simpa using h1.2,h1.1,dz⟩
theorem z04 {u:Un} (h:zfg u zjn zi9=true):(∀ i ∈ (genS u).code,zft i.op/\zft i.a/\zft i.b)/\(∀ f ∈ (genS u).fixes,zft f.at_/\zft f.kind/\zft f.m)/\(∀ x ∈ entsW u.parts,zft x)/\zft ((zb6 u.parts).code.length:Int)/\(genS u).fixes.length<=33000:=by
 obtain ⟨ha,_,hl,hs⟩:=z16 h;have hb:=zum h;have h3:=zjo (zb5 h).2.2;obtain ⟨e,he,hp,hr⟩:=ha.fx
 have Gp:(genS u).fixes=e:=by rw [he];rfl
 subst Gp;refine ⟨fun i hi=>?_,fun f hf=>?_,fun x hx=>?_,by unfold zft;omega,?_⟩
 . obtain ⟨k,hk,rfl⟩:=vba hi
   have:=ha.ins k _ (vaf _) (vad hk);unfold inR at this;unfold zft;omega
 . obtain ⟨k,i,hi,hk,_,hx⟩:=hr f hf
   have:=zec hi;unfold zft
   rcases hx with ⟨h1,h2,_⟩ | ⟨h1,_,_,h4⟩<;>omega
 . rw [zsg,vcy] at hx
   obtain ⟨b,B6,e⟩:=hx;have:=hs b B6;unfold zft;omega
 . have:=z5b ((genS u).code.length:Int) (genS u).fixes 0 ae hp (fun f hf=>by
    obtain ⟨k,i,hi,hk,_,_⟩:=hr f hf;have:=zec hi
    omega)
   omega
theorem z67 {W:World} {base:Nat} {t:TypeId} {sz:Nat} {a:OA} {n cap:Nat} {xs:List Value} (h:W.ownsRow base t sz (.slice a n cap) n xs):n<=cap:=by
 obtain ⟨_,_,e,h1,_⟩:=zag h
 cases e
 exact h1
theorem z5c {u:Un} {o:Ob} (hg:zxv u = .ok o) {x1:OA} {y1:Nat} {x2:OA} {y2:Nat} {x3:OA} {y3:Nat} {w:World} (hU:UvAt w u x1 y1 x2 y2 x3 y3) :
 qc 31 #[.agg #[.string u.name,.slice x1 u.uses.length y1,qi u.data,.slice x2 u.parts.length y2,.slice x3 u.main.length y3]] w fun e w'=>∃ x1 y1 x3 y3 x4 y4 x5 y5,e = .returned (.tuple #[.agg #[.string o.name,.slice x1 o.uses.length y1,qi o.data,.slice x3 o.code.length y3,.slice x4 o.fixes.length y4,.slice x5 o.entries.length y5,qi o.main],qi 0])/\OvAt w' o x1 x3 x4 x5/\o.uses.length<=y1/\qb w w':=
 (z7n u x1 y1 x2 y2 x3 y3 w hU).mono fun e w' ⟨h,hb⟩=>by
   obtain ⟨rfl,hh,hc,hf⟩:=z66 hg;unfold zj6 at h;rw [hg] at h;obtain ⟨ua,uc,ca,cc,fa,fc,ea,ec,he,h1,h2,h3,h4⟩:=h;obtain ⟨s1,s2,s3,s4,s5⟩:=z04 hh;have hd:=zjk (zb5 hh).2.2;have hu:=zjo (zb5 hh).2.2;have h6:=zi6 (zb5 hh).2.2;have EW:(zqa u).entries.length=u.parts.length:=zdy ..;have Ew:=zum hh;refine ⟨ua,uc,ca,cc,fa,fc,ea,ec,he,⟨hU.wn,?_,z03 (by show _<=u.data;omega) (by show u.data<=_;omega),?_,?_,?_,z03 s4.1 s4.2⟩,z67 h1,hb⟩
   . exact zp0 h1 (zry _ (zdw hU.uses).2) fj (by show (zak u.uses).length<=_;simp [zak];omega)
   . exact zp0 h2 (zv0 _ s1) (by rw [zv2];omega) (by rw [zv2];show (genS u).code.length*3<=_;omega)
   . exact zp0 h3 (zv1 _ s2) (by rw [zv3];omega) (by rw [zv3];show (genS u).fixes.length*3<=_;omega)
   . exact zp0 h4 (zrx _ s3) (by simp [zgf]) (by rw [show (zgf (zqa u).entries).length=(zqa u).entries.length from by simp [zgf],EW];omega)
end Go.Proofs.YtndkhgakfodldaaGreatDoor

namespace Go.Proofs.YtndkhgakfodldaaGreatDoor
set_option maxRecDepth 100000
set_option maxHeartbeats 6400000
open Go.RowKit Go.Shelf
set_option linter.unusedSimpArgs false
set_option linter.unusedVariables false
section
variable {P:Program} {ops:Array Oper} {o:Oper} {a:Act} {w:World} {K:Act->World->Prop} {Q:Exit->Act->World->Prop} {E:Prop}
theorem run_callN (f:FuncId) (xs:Array Operand) (G6:Array TypeId) (ho:o.op = .call { callee:=.value (.func f),args:=xs,argTypes:=G6 })
 (Ci:Enters P f) (vs:Array Value) (hx:xs.map a.eval=vs):(execOp a.eval o).run P w = .ok (.enter f vs) w:=by
 have h:=Ci vs w;exact gL
end
set_option maxHeartbeats 1600000
set_option maxHeartbeats 6400000
theorem DAt.lower {w:World} {a:OA} {n:Nat} {ds:List D} (h:DAt w Tt a n ds):DAt w (·<w.heap.size) a n ds:=h.moves ⟨vaa _,fun b hb _=>⟨hb,rfl⟩⟩
end Go.Proofs.YtndkhgakfodldaaGreatDoor
