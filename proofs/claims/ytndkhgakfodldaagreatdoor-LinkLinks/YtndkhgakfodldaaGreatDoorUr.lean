import Derived.Deep.DeepCutAuto
import Derived.Test.YtndkhgakfodldaaGreatDoorJf
namespace Go.Proofs.YtndkhgakfodldaaGreatDoor
set_option maxRecDepth 100000
set_option maxHeartbeats 8000000
open Go.RowKit Go.Maps Go.WideMaps
set_option linter.unusedSimpArgs false
theorem zi3 {ops:Array Oper} {o:Oper} {a:Act} {K:Act->World->Prop} {Q:Exit->Act->World->Prop} {E:Prop} {w:World} (BC:o.guard=none) (s x:Operand)
 (ho:o.op = .call { callee:=.builtin .append,args:=#[s,x],argTypes:=#[22,22] }) (us:List ByteArray) (b:OA) (c:Nat) (hs:a.eval s=qs) (hx:a.eval x = .slice b us.length c) (hS:Fx.zd4 w b us) (Ai:us.length<=10000)
 (h:∀ v' w',w'.ownsRow w.heap.size 9 1 v' us.length (strV us)->qb w w'->K (a.put o.dst v') w') :
 if Region.wanted o (yielded ops a.tmps)=true then Oper.wp Tryz.prog o a w K Q else E:=by
 have hw:Region.wanted o (yielded ops a.tmps)=true:=by simp [Region.wanted,BC]
 rw [if_pos hw];obtain ⟨v',w',hr,h2,h3⟩:=zb3 w.heap.size o.type (qs) 0 [] (ver _ _ _ _) us b c hS (by omega) (vaa _);refine Lib.wp_append_run w s x _ _ ho _ _ hs hx v' w' hr (h v' w' (by simpa using h2) ?_);exact (Below.refl w.heap.size w).grown h3 (vaa _) (fun k hk=>by simp [Value.ownBlock] at hk)
theorem Tryz.infoPart:(Tryz.prog.info? 106).map (fun i=>(i.zero,i.size,i.bytes))=some (some (.agg #[qi 0,qi 0,qs]),3,40):=by kernel_rfl
theorem z1t {A:Nat->Prop} {t:Pt} {w:World} {a:OA} {cap:Nat} (h:EAt w A a t.body.length (zc7 t.body)):zat w A t.ds [qi t.params,qi t.locals,.slice a t.body.length cap]:=.cons zqp (.cons zqp (.cons h.val .nil))
theorem zyr (l:List Pt) (x:Pt):zke (l++[x])=zke l++x.ds:=by simp [zke]
theorem ztz {w:World} {b:Nat} {x0 x1 x2 x3 x4:Value} {t:TypeId} (h:w.heap[b]? = some (.cells #[x0,x1,x2,x3,x4] t (0,0))):w.cell? (qa b 0)=some x0/\w.cell? (qa b 1)=some x1/\w.cell? (qa b 2)=some x2/\w.cell? (qa b 3)=some x3/\w.cell? (qa b 4)=some x4/\(∀ i,w.frozen? (qa b i)=false)/\b<w.heap.size:=by
 obtain ⟨h0,h1,h2,h3,h4,h5⟩:=zaa h;exact ⟨h0,h1,h2,h3,h4,h5,lt_of_heap h⟩
theorem zku {W:World} {b:Nat} {x0 x1:Value} (hb:b<W.heap.size) (h:W.cell? (qa b 0)=some x0/\W.cell? (qa b 1)=some x1) (o:Obj):(W.alloc o).cell? (qa b 0)=some x0/\(W.alloc o).cell? (qa b 1)=some x1:=
 ⟨((al1 W o).cell (p:=(qa b 0)) hb).trans h.1,((al1 W o).cell (p:=(qa b 1)) hb).trans h.2⟩
theorem zvk {W:World} {b:Nat} {x0 x1:Value} (hb:b<W.heap.size) (h:W.cell? (qa b 0)=some x0/\W.cell? (qa b 1)=some x1) (o:Obj):(W.alloc o).drew.cell? (qa b 0)=some x0/\(W.alloc o).drew.cell? (qa b 1)=some x1:=zku hb h o
theorem z4l {W:World} {b c:Nat} {x0 x1:Value} (hn:b≠c) (h:W.cell? (qa b 0)=some x0/\W.cell? (qa b 1)=some x1) (u0 u1 u2 u3 u4:Value) :
 (((((W.setCell (qa c 0) u0).setCell (qa c 1) u1).setCell (qa c 2) u2).setCell (qa c 3) u3).setCell (qa c 4) u4).cell? (qa b 0)=some x0/\(((((W.setCell (qa c 0) u0).setCell (qa c 1) u1).setCell (qa c 2) u2).setCell (qa c 3) u3).setCell (qa c 4) u4).cell? (qa b 1)=some x1:=by
 have e:(((((W.setCell (qa c 0) u0).setCell (qa c 1) u1).setCell (qa c 2) u2).setCell (qa c 3) u3).setCell (qa c 4) u4).heap[b]? = W.heap[b]?:=(heap_set_ne hn _).trans ((heap_set_ne hn _).trans ((heap_set_ne hn _).trans ((heap_set_ne hn _).trans (heap_set_ne hn _))));exact ⟨(ves (w:=W) (a:=(qa b 0)) e).trans h.1,(ves (w:=W) (a:=(qa b 1)) e).trans h.2⟩
theorem bdrew (w:World):qb w w.drew:=(Below.refl _ _).drew
theorem zbd (w:World) (o:Obj):qb w (w.alloc o).drew:=((Below.refl _ w).alloc (vaa _) o).drew
theorem zvl {w wu:World} {x0 x1 x2 x3 x4:Value} {t:TypeId} (hb:Below (w.alloc (.cells #[x0,x1,x2,x3,x4] t)).drew.heap.size (w.alloc (.cells #[x0,x1,x2,x3,x4] t)).drew wu) :
 wu.cell? (qa w.heap.size 0)=some x0/\wu.cell? (qa w.heap.size 1)=some x1/\wu.cell? (qa w.heap.size 2)=some x2/\wu.cell? (qa w.heap.size 3)=some x3/\wu.cell? (qa w.heap.size 4)=some x4/\(∀ i,wu.frozen? (qa w.heap.size i)=false)/\w.heap.size<wu.heap.size:=by
 have h:wu.heap[w.heap.size]? = some (.cells #[x0,x1,x2,x3,x4] t):=(hb.block w.heap.size (by show w.heap.size<(w.alloc _).heap.size;simp)).trans (heap_newP w _);obtain ⟨h0,h1,h2,h3,h4,h5⟩:=zaa h;exact ⟨h0,h1,h2,h3,h4,h5,lt_of_heap h⟩
theorem zmx {A:Nat->Prop} {w:World}:∀ (l:List ByteArray),(∀ s ∈ l,s.size<=maxLen)->zat w A (zaw l) (strV l)
 | [],_=>.nil
 | s :: r,h=>.cons (z38 (h s (by simp))) (zmx r fun x hx=>h x (by simp [hx]))
theorem z1u {w:World} {B:Nat} {v:Value} {l:List ByteArray} (h:w.ownsRow B 9 1 v l.length (strV l)) (hs:∀ s ∈ l,s.size<=maxLen):∀ a cap,v = .slice a l.length cap->EAt w (B<=·) a l.length (zaw l):=by
 rintro a cap rfl;exact EAt.of_own h (fun _ h=>h) (zmx l hs)
theorem z1v (m:Mo) (v:Value) (a1:OA) (c1:Nat) (a2:OA) (c2:Nat) (a3:OA) (c3:Nat) (a4:OA) (c4:Nat) (l:List Fc) (al:OA) (cl:Nat) (w:World) (hM:MoAt w Tt m v a1 c1 a2 c2 a3 c3 a4 c4) (he:m.err=0) (hF:DAt w Tt al l.length (z4i l)) (CR:l.length<=3) (FH:∀ f ∈ l,f.items.length<=16) :
 qc 64 #[v,.slice al l.length cl] w fun e w'=>zyq w.heap.size (zi2 m l) e w'/\qb w w':=by
 obtain rfl:=hM.val;have HM:=hid hM;have Gk:=zyi he;have N5:=hid (zex he);have Kj:=hid hF;have Lu:=hid FH;have HC:=hid (zh8 m _ a1 c1 a2 c2 a3 c3 a4 c4 ((w.alloc (kzG m.name a1 m.uses.length c1 a2 m.decls.length c2 a3 m.procs.length c3 a4 m.main.length c4)).alloc (kzC ⟨#[]⟩ none 0 0 0 none 0 0 none 0 0)) (hM.later (bl2 _ _ _)) Gk)
 have Pk:Hid ((za4 m).length<=16):=by have h1:=Gk.decls;have h2:=Gk.procs;show (za4 m).length<=16;rw [zf0];omega
 have Js:=Gk.decls;have O8:=Gk.procs;clear hM hF FH he Gk;go_enter Tryz.func64,Tryz.ntmps64;go_wp2_with fail;refine HC.out.mono ?_;rintro e w1 ⟨⟨ai,ci,rfl,hit⟩,A5⟩;have A8:=hid (thenB (bl2 w _ _) A5);have Ao:=A5.size;simp at Ao;have P0:=hid ((A5.block w.heap.size (by simp;omega)).trans (zab (heap_newP w _)));have P1:Hid (w1.heap[w.heap.size+1]? = some (kzC ⟨#[]⟩ none 0 0 0 none 0 0 none 0 0)):=(A5.block (w.heap.size+1) (by simp)).trans (by simpa using heap_newP (w.alloc _) _);obtain ⟨HI,HF⟩:=zn9 hit;have Kh:=hid HI;have Kk:=hid HF;have GC:=@run_makeMap Tryz.prog;have Kc:=hid ((zlb.made w1).later (al1 _ (.cells #[.map (some w1.heap.size)] 189)));have S1:=hid (zkt HI (R:=w1.heap.size) (vaa _));have Bh:=hid (zkp (fun _ _=>none) w1.heap.size 0 ⟨#[]⟩ 0 (za4 m) ai ci ((w1.alloc (.map #[] 0)).alloc (.cells #[.map (some w1.heap.size)] 189)) Kc.out (vae _) (HI.later (bl2 _ _ _)) HF (by have:=Pk.out;omega) (by omega) S1.out)
 clear A5 hit HI HF HC;go_wp2_with fail;refine Bh.out.mono ?_;rintro e w2 ⟨rfl,hkm,Bf⟩
 have IB:Hid (zlb w2 w1.heap.size (za4 m).length (z4j m)):=by have:=hkm;rw [vax] at this;exact this
 have HE:=hid Bf;clear hkm Bf Bh GC Kc;go_wp2_with fail
 go_loopw [9,10,30] (fun _ _ i wr=>∃ (j n:Nat),j<=l.length/\i=qi j/\n<=16+16*j/\zlb wr w1.heap.size n (zho (z4j m) (l.take j))/\Keeps w1.heap.size ((w1.alloc (.map #[] 0)).alloc (.cells #[.map (some w1.heap.size)] 189)) wr) (fun _ _ i _=>l.length - (intOf i).toNat)
 case atStart=>exact ⟨0,_,vae _,rfl,by have:=Pk.out;omega,IB.out,HE.out⟩
 case round =>
  clear IB HE;obtain ⟨j,n,hj,rfl,hn,hkm,Bf⟩:=hrel;have IB:=hid hkm;have HE:=hid Bf;have BU:=Bf.size;simp at BU;have nb:wr.heap[w1.heap.size+1]? = some (.cells #[.map (some w1.heap.size)] 189):=(Bf.block _ (by simp) (by omega)).trans (by simpa using heap_newP (w1.alloc (.map #[] 0)) (.cells #[.map (some w1.heap.size)] 189));have RO:=hid nb
  have k0:wr.cell? ⟨w1.heap.size+1,0,none⟩=some (.map (some w1.heap.size)):=by rw [vep nb];rfl
  have F0:=lt_of_heap nb;have C9:Hid (qb w wr):=Keeps.below (thenB A8.out (bl2 _ _ _)) HE.out (by omega) (by simp;omega);clear hkm Bf nb
  by_cases A0:j<l.length
  . obtain ⟨b,off,aj,cj,rfl,Au,x0,x1,Bq,hdj⟩:=(Kj.out.later C9.out).fc j A0
    obtain ⟨b',BG,aj',cj',DF,hbl0,_,x1',_,hdj0⟩:=Kj.out.fc j A0
    have Oj:aj'=aj:=by
     have e0:=vai DF
     injection e0 with e1 e2
     subst e1 e2;have:=(C9.out.cell (p:=⟨b,off+j*2+1,none⟩) hbl0).trans x1';rw [this] at x1;have:=vai x1;injection this
    subst Oj;obtain ⟨Dp,HFj⟩:=zks hdj;have Ol:=zkt (zks hdj0).1 (R:=w1.heap.size) (by omega);have R9:=Lu.out l[j] (vag _)
    have BW:Hid (zia (zho (z4j m) (l.take j)) l[j].name ((j:Int)+1) l[j].items=zho (z4j m) (l.take (j+1))):=by
     show _=zho (z4j m) (l.take (j+1));rw [vaf A0,zr1,vbg,vdt (by omega)]
    have IZ:IntKind.i64.wrap ((j:Int)+1)=(j:Int)+1:=by simp only [IntKind.wrap,IntKind.bits,IntKind.signed];simp;omega
    clear DF hbl0 x1' hdj hdj0;generalize l[j]=f at *;have BF:=hid (zkp (zho (z4j m) (l.take j)) w1.heap.size n f.name ((j:Int)+1) f.items aj' cj (wr.alloc (.cells #[.string f.name,.slice aj' f.items.length cj] 30)) (IB.out.later (al1 _ _)) Bq (Dp.later (al1 _ _)) HFj (by omega) (by omega) Ol);clear Bq Dp HFj Ol;go_wp2_with fail;refine BF.out.mono ?_;rintro e w3 ⟨rfl,hkm3,hke3⟩;rw [BW.out] at hkm3;have Nk:=hid hkm3;have IE:=hid ((HE.out.alloc (.cells #[.string f.name,.slice aj' f.items.length cj] 30)).trans hke3);clear hkm3 hke3 BF;go_wp2_with fail;go_roundw
    case rel=>exact ⟨j+1,n+f.items.length,by omega,by go_num,by omega,Nk.out,IE.out⟩
    case measure=>simp [intOf];omega
  . obtain rfl:j=l.length:=by omega
    have RZ:Hid (zls wr (.map (some w1.heap.size)) (zdt m l)):=by have:=IB.out.known;rw [vat] at this;exact this
    have Q0:Hid (wr.heap[w.heap.size]? = some (kzG m.name a1 m.uses.length c1 a2 m.decls.length c2 a3 m.procs.length c3 a4 m.main.length c4)):=(HE.out.block _ (by simp;omega) (by omega)).trans (zab (zab P0.out));have Q1:Hid (wr.heap[w.heap.size+1]? = some (kzC ⟨#[]⟩ none 0 0 0 none 0 0 none 0 0)):=(HE.out.block _ (by simp;omega) (by omega)).trans (zab (zab P1.out));have Hf:=hid (fun W (hW:qb wr W)=>((zc9 HM.out.uses).1.later (thenB C9.out hW)));obtain ⟨x0,x1,x2,x3,x4,xf⟩:=zaa Q0.out;have Bn:=lt_of_heap Q0.out;have KB:=N5.out.1;have Rz:=hid (zc9 HM.out.uses).2;have PB:=hid (fun W (hW:qb wr W)=>ztz ((hW.block _ Bn).trans Q0.out));clear IB HE k0;go_wp2_with fail
    obtain ⟨wL,hwL⟩:∃ x,x=wr:=⟨_,rfl⟩
    subst hwL
    go_cut [11] (fun v wc=>∃ (U:Nat) (au:OA) (cu:Nat),v=pq U 0/\wL.heap.size<=U/\Hid (qb wL wc)/\Hid (wc.heap[U]? = some (kzC m.name au m.uses.length cu (zbw m) none 0 0 none 0 0))/\Hid (EAt wc (fun b=>wL.heap.size<=b/\b≠U) au m.uses.length (zaw m.uses)))
    case first=>
     have J9:w.heap.size≠wL.heap.size:=by omega
     have FF0:Hid (wL.cell? (qa w.heap.size 0)=some (.string m.name)/\wL.cell? (qa w.heap.size 1)=some (.slice a1 m.uses.length c1)):=⟨x0,x1⟩
     have FF:Hid (wL.drew.cell? (qa w.heap.size 0)=some (.string m.name)/\wL.drew.cell? (qa w.heap.size 1)=some (.slice a1 m.uses.length c1)):=⟨x0,x1⟩
     go_region_held_law (fun W=>W.cell? (qa w.heap.size 0)=some (.string m.name)/\W.cell? (qa w.heap.size 1)=some (.slice a1 m.uses.length c1)) (first | with_reducible exact FF.out | with_reducible exact zku Eg FF.out _ | with_reducible exact zvk Bn FF0.out _ | with_reducible exact zku Bn FF0.out _ | with_reducible exact z4l J9 FF.out _ _ _ _ _)
      (first | (refine zi3 rfl _ _ rfl m.uses a1 c1 rfl rfl (Hf.out _ (by first | exact bdrew wL | exact zbd wL _)) (by omega) ?_;intro vu wu hou FB;have Px:=hid (z1u hou Rz.out);obtain ⟨au,cu,rfl,_⟩:=zhm hou;clear hou;(first | (refine And.elim ?_ (zvl FB);intro e0 AY;obtain ⟨e1,e2,e3,e4,ef,Ei⟩:=AY;refine And.elim ?_ (PB.out wu (thenB (zbd wL _) FB));intro f0 fr;obtain ⟨f1,f2,f3,f4,ff,Eg⟩:=fr;have Ls:=hid (thenB (zbd wL _) FB);have FF:=hid (And.intro f0 f1)) | (refine And.elim ?_ (PB.out wu (thenB (bdrew wL) FB));intro f0 fr;obtain ⟨f1,f2,f3,f4,ff,Eg⟩:=fr;have Ls:=hid (thenB (bdrew wL) FB);have FF:=hid (And.intro f0 f1)))))
     . have HW:Hid (qb wL (wu.alloc (kzC m.name au m.uses.length cu (zbw m) none 0 0 none 0 0))):=thenB Ls.out (al1 _ _)
       have HU:Hid ((wu.alloc (kzC m.name au m.uses.length cu (zbw m) none 0 0 none 0 0)).heap[wu.heap.size]? = some (kzC m.name au m.uses.length cu (zbw m) none 0 0 none 0 0)):=heap_newP _ _;have HA:Hid (EAt (wu.alloc (kzC m.name au m.uses.length cu (zbw m) none 0 0 none 0 0)) (fun b=>wL.heap.size<=b/\b≠wu.heap.size) au m.uses.length (zaw m.uses)):=(Px.out au cu rfl).moves ⟨by simp,fun b hb h=>⟨⟨h,by omega⟩,(al1 _ _).block b hb⟩⟩;have hU:wL.heap.size<=wu.heap.size:=Ls.out.size;go_wp2_with fail;go_meet;exact ⟨_,au,cu,rfl,hU,HW,HU,HA⟩
     . have HW:Hid (qb wL (((((wu.setCell (qa wL.heap.size 0) (.string m.name)).setCell (qa wL.heap.size 1) (.slice au m.uses.length cu)).setCell (qa wL.heap.size 2) (qi (zbw m))).setCell (qa wL.heap.size 3) (qs)).setCell (qa wL.heap.size 4) (qs))):=zdg Ls.out (vaa _) _ _ _ _ _
       have HU:Hid ((((((wu.setCell (qa wL.heap.size 0) (.string m.name)).setCell (qa wL.heap.size 1) (.slice au m.uses.length cu)).setCell (qa wL.heap.size 2) (qi (zbw m))).setCell (qa wL.heap.size 3) (qs)).setCell (qa wL.heap.size 4) (qs)).heap[wL.heap.size]? = some (kzC m.name au m.uses.length cu (zbw m) none 0 0 none 0 0)):=heap_set (heap_set (heap_set (heap_set (heap_set ((FB.block wL.heap.size (by show wL.heap.size<(wL.alloc _).heap.size;simp)).trans (heap_newP wL _)) _) _) _) _) _;have HA:Hid (EAt (((((wu.setCell (qa wL.heap.size 0) (.string m.name)).setCell (qa wL.heap.size 1) (.slice au m.uses.length cu)).setCell (qa wL.heap.size 2) (qi (zbw m))).setCell (qa wL.heap.size 3) (qs)).setCell (qa wL.heap.size 4) (qs)) (fun b=>wL.heap.size<=b/\b≠wL.heap.size) au m.uses.length (zaw m.uses)):=((Px.out au cu rfl).moves ⟨vaa _,fun b hb h=>⟨(⟨by have:(wL.alloc _).heap.size<=b:=h;simp at this;omega,by have:(wL.alloc _).heap.size<=b:=h;simp at this;omega⟩:wL.heap.size<=b/\b≠wL.heap.size),rfl⟩⟩:EAt wu (fun b=>wL.heap.size<=b/\b≠wL.heap.size) au m.uses.length (zaw m.uses)).moves ((zad.refl wu (fun b=>wL.heap.size<=b/\b≠wL.heap.size)).set5 (by intro k _ hk;exact hk.2) _ _ _ _ _)
       have hU:wL.heap.size<=wL.heap.size:=vaa _;go_wp2_with fail;go_meet;exact ⟨_,au,cu,rfl,hU,HW,HU,HA⟩
    case rest=>
     obtain ⟨U,au,cu,rfl,hU,HW,HU,HA⟩:=hcut;have To:=lt_of_heap HU.out;have T0:=hid ((HW.out.block _ Bn).trans Q0.out);have T1:=hid ((HW.out.block _ (lt_of_heap Q1.out)).trans Q1.out);have T2:=hid ((HW.out.block _ F0).trans RO.out);have Cz:=lt_of_heap Q1.out;clear x0 x1 x2 x3 x4 xf;generalize wc=W3 at *;obtain ⟨x0,x1,x2,x3,x4,xf⟩:=zaa T0.out;have LZ:=lt_of_heap T0.out;have LY:=lt_of_heap T1.out;have LX:=lt_of_heap T2.out;have BO:=HW.out.size;go_wp2_with fail;clear x0 x1 x2 x3 x4 xf
     go_loopw [13,14,15,54] (fun _ _ _ i wt=>∃ (j:Nat) (A7:List Pt) (vp:Value),j<=m.procs.length/\i=qi j/\A7.length=j/\zb6 (zdt m l) (m.procs.take j) = .ok A7/\wt.heap[U]? = some (.cells #[.string m.name,.slice au m.uses.length cu,qi (zbw m),vp,qs] 42)/\Row W3.heap.size 106 3 wt vp A7.length (zke A7)/\Keeps U W3 wt) (fun _ _ _ i _=>m.procs.length - (intOf i).toNat)
     case atStart=>exact ⟨0,[],qs,vae _,rfl,rfl,rfl,HU.out,Row.nil _ _ _ _,Keeps.refl _ _⟩
     case round=>
      clear HU;obtain ⟨j,A7,vp,hj,rfl,hacc,hpm,EV,Ab,Bf⟩:=hrel;have N4:=hid hpm;have G8:=hid EV;have L6:=hid Ab;have Ph:=hid Bf;have SD:=Bf.size;have OB:=lt_of_heap EV;have R0:=hid ((Bf.block _ LZ (by omega)).trans T0.out);have R1:=hid ((Bf.block _ LY (by omega)).trans T1.out);have R2:=hid ((Bf.block _ LX (by omega)).trans T2.out);have PC:Hid (qb wL wr):=Keeps.below HW.out Bf hU (by omega);have Bp:=hid (thenB C9.out PC.out);have Pf:=hid (RZ.out.later PC.out);obtain ⟨x0,x1,x2,x3,x4,xf⟩:=zaa R0.out
      have n0:wr.cell? ⟨w1.heap.size+1,0,none⟩=some (.map (some w1.heap.size)):=by rw [vep R2.out];rfl
      have Ql:=lt_of_heap R0.out;have Jj:=lt_of_heap R1.out;have Qk:=lt_of_heap R2.out;clear hpm EV Ab Bf
      by_cases A0:j<m.procs.length
      . obtain ⟨b,off,q1,d1,q2,d2,q3,d3,rfl,hx⟩:=(HM.out.procs.later Bp.out).pr j A0
        obtain ⟨Au,g0,g1,g2,g3,g4,Db,DW,Ic,Bq⟩:=hx;obtain ⟨O7,hpl,EX⟩:=N5.out.2.2.2.1 m.procs[j] (vag _);have Ec:=hid (fun c (he:zkr (zdt m l) m.procs[j] = .error c)=>zvj (zvi A0 N4.out he));have Gd:=hid (fun y (he:zkr (zdt m l) m.procs[j] = .ok y)=>zr2 A0 N4.out he);generalize m.procs[j]=p at *;have CU:=hid (z1s (zdt m l) w1.heap.size p q1 d1 q2 d2 q3 d3 (wr.alloc (kzK p.name p.pub q1 p.params.length d1 q2 p.locals.length d2 q3 p.body.length d3)) (Pf.out.later (al1 _ _)) (Db.later (al1 _ _)) (DW.later (al1 _ _)) (Ic.later (al1 _ _)) O7 hpl EX);clear Db DW Ic O7 hpl EX Bq x0 x1 x2 x3 x4 xf;go_wp2_with fail;refine CU.out.mono ?_;rintro e w4 ⟨Ak,Ah⟩;have An:=hid (thenB (al1 wr _) Ah);have D4:=Ah.size;simp at D4;clear Ah CU n0 g0 g1 g2 g3 g4
        cases hr:zkr (zdt m l) p with
        | error c=>
          rw [hr] at Ak;obtain ⟨px,py,pa,pk,pc,rfl,Aj⟩:=Ak;have HR:=hid (Ec.out c hr);have v1:=(An.out.block _ Jj).trans R1.out;have CY:=lt_of_heap v1;obtain ⟨r0,r1,r2,r3,r4,rf⟩:=zaa v1;clear hr v1;go_wp2_with fail;refine bodyPost_ret (v:=.tuple #[.agg #[.string ⟨#[]⟩,qs,qi 0,qs,qs],qi c]) (by simp [results,Tryz.results64,go_sem,r0,r1,r2,r3,r4,CY]) rfl ⟨by rw [HR.out];exact ⟨rfl,Aj⟩,?_⟩;exact (zdg (thenB Bp.out An.out) (by omega) _ _ _ _ _).alloc (by simp;omega) _
        | ok t=>
          rw [hr] at Ak;obtain ⟨pa,pc,rfl,hea⟩:=Ak;have HR:=hid (Gd.out t hr);have E6:=hid ((An.out.block _ OB).trans G8.out);have JU:Hid (Row W3.heap.size 106 3 (w4.alloc (kzL t.params t.locals pa t.body.length pc)) vp A7.length (zke A7)):=(L6.out.later An.out).alloc _;have Py:Hid (zat (w4.alloc (kzL t.params t.locals pa t.body.length pc)) (wr.heap.size+1<=·) t.ds [qi t.params,qi t.locals,.slice pa t.body.length pc]):=z1t (hea.moves (((zad.refl w4 _).alloc _).trans ⟨vaa _,fun b _ h=>⟨by simp at h;exact h,rfl⟩⟩));have K9:=hid (fun k hk=>(L6.out.lt k hk).2);obtain ⟨o0,o1,o2,o3,o4,of⟩:=zaa E6.out;have Mv:=lt_of_heap E6.out;have Kf:=hid (((Ph.out.later An.out)).alloc (kzL t.params t.locals pa t.body.length pc));clear hr hea
          go_wp2_with (at_builtin;refine zbn rfl (.tmp 69) (.tmp 71) 39 rfl W3.heap.size 106 _ 3 40 Tryz.underlying39 Tryz.infoPart rfl (by decide) (w4.alloc (kzL t.params t.locals pa t.body.length pc)) vp A7.length (zke A7) t.ds rfl JU.out #[qi t.params,qi t.locals,.slice pa t.body.length pc] _ (by simp) rfl rfl (wr.heap.size+1<=·) Py.out ?_ (by omega) (by decide) (by simp;omega) ?_)
          . intro b _ hb
            have AZ:wr.heap.size+1<=b:=hb;exact ⟨by omega,fun h=>by have:=K9.out b h;omega⟩
          . intro g5 c5 w5 Br Ar Cc
            have Ke:=hid (Kf.out.belowOf Ar);have Hg:=hid ((Ar.block _ (by omega)).trans (zab E6.out));have B5:=hid (Br.set (p:=(qa U 3)) (by show U<W3.heap.size;omega) (.slice (some (qa g5 0)) (j+1) c5));have MQ:Hid ((w5.setCell (qa U 3) (.slice (some (qa g5 0)) (j+1) c5)).heap[U]? = some (kzC m.name au m.uses.length cu (zbw m) (some (qa g5 0)) (j+1) c5 none 0 0)):=heap_set Hg.out _;have Nl:=hid (Ke.out.own 3 (.slice (some (qa g5 0)) (j+1) c5));obtain ⟨s0,s1,s2,s3,s4,sf⟩:=zaa Hg.out;have QO:=lt_of_heap Hg.out;clear Br Ar JU Py o0 o1 o2 o3 o4 of Ke Kf;go_wp2_with fail;go_roundw
            case rel=>exact ⟨j+1,A7++[t],_,by omega,by go_num,by simp [hacc],HR.out,MQ.out,by rw [zyr,vak,hacc];exact B5.out,Nl.out⟩
            case measure=>simp [intOf];omega
      . obtain rfl:j=m.procs.length:=by omega
        have P3:Hid (zb6 (zdt m l) m.procs = .ok A7):=by have:=N4.out;rw [vat] at this;exact this
        have BX:=hid (zji 6 m.main N5.out.2.2.2.2 (zdt m l) (fun _=>none) (.map (some w1.heap.size)) (.map none) Tt a4 c4 wr Pf.out (zvh wr) (HM.out.main.later Bp.out));go_wp2_with fail;refine BX.out.mono ?_;rintro e w4 ⟨Ak,Ah⟩;have An:=hid Ah;have D4:=Ah.size;have v1:=(Ah.block _ Jj).trans R1.out;have CY:=lt_of_heap v1;obtain ⟨r0,r1,r2,r3,r4,rf⟩:=zaa v1;have E6:=hid ((Ah.block _ OB).trans G8.out);clear Ah BX v1 n0 x0 x1 x2 x3 x4 xf
        cases hr:ze7 (zdt m l) (fun _=>none) m.main with
        | error c=>
          rw [hr] at Ak;obtain ⟨rfl,Aj⟩:=Ak;have HR:=hid (zyp P3.out hr);clear hr;go_wp2_with fail;refine bodyPost_ret (v:=.tuple #[.agg #[.string ⟨#[]⟩,qs,qi 0,qs,qs],qi c]) (by simp [results,Tryz.results64,go_sem,r0,r1,r2,r3,r4,CY]) rfl ⟨by rw [HR.out];exact ⟨rfl,Aj⟩,?_⟩;exact zdg (thenB Bp.out An.out) (by omega) _ _ _ _ _
        | ok bd=>
          rw [hr] at Ak;obtain ⟨ab,cb,rfl,hea⟩:=Ak;have HR:=hid (z4k P3.out hr);obtain ⟨ap,cp,rfl,hep⟩:=L6.out.slice;obtain ⟨o0,o1,o2,o3,o4,of⟩:=zaa E6.out;have Mv:=lt_of_heap E6.out
          have Tn:U≠w.heap.size+1:=by omega
          have EO:Hid (∀ u v0 v1 v2 v3 v4,∀ A:Nat->Prop,(∀ b,A b->w.heap.size+2<=b/\b≠U)->zad w4 A (set5 (w4.setCell (qa U 4) u) (w.heap.size+1) v0 v1 v2 v3 v4) (w.heap.size<=·)):=fun u v0 v1 v2 v3 v4 A hA=>
           (((zad.refl w4 A).set (p:=(qa U 4)) (fun b _ hb=>(hA b hb).2) u).set5 (b:=w.heap.size+1) (fun b _ hb=>by have:=(hA b hb).1;omega) v0 v1 v2 v3 v4).trans ⟨vaa _,fun b _ h=>⟨by have:=(hA b h).1;show w.heap.size<=b;omega,rfl⟩⟩
          have Lt:Hid (EAt w4 (fun b=>wL.heap.size<=b/\b≠U) au m.uses.length (zaw m.uses)):=(HA.out.moves ((zad.refl W3 _).keeps Ph.out (fun b _ h=>h.2))).later An.out;have Ho:Hid (EAt w4 (W3.heap.size<=·) ap A7.length (zke A7)):=hep.later An.out;have RT:Hid (EAt w4 (wr.heap.size<=·) ab bd.length (zc7 bd)):=hea;have SC:=C9.out.size;clear hr hea hep L6;go_wp2_with fail;refine bodyPost_ret (v:=.tuple #[.agg #[.string m.name,.slice au m.uses.length cu,qi (zbw m),.slice ap A7.length cp,.slice ab bd.length cb],qi 0]) (by simp [results,Tryz.results64,go_sem,r0,r1,r2,r3,r4,CY,hacc]) rfl ⟨?_,?_⟩
          . rw [HR.out]
            exact ⟨au,cu,ap,cp,ab,cb,rfl,Lt.out.moves (EO.out _ _ _ _ _ _ _ (fun b h=>⟨by have:=h.1;omega,h.2⟩)),Ho.out.moves (EO.out _ _ _ _ _ _ _ (fun b h=>by have:W3.heap.size<=b:=h;exact ⟨by omega,by omega⟩)),RT.out.moves (EO.out _ _ _ _ _ _ _ (fun b h=>by have:wr.heap.size<=b:=h;exact ⟨by omega,by omega⟩))⟩
          . exact zdg ((thenB Bp.out An.out).setCell (p:=(qa U 4)) (by show w.heap.size<=U;omega) _) (by omega) _ _ _ _ _
def za5 (p:Fc × ByteArray):Bool:=Fx.zk9 p.1 == 0&&decide (p.1.name=p.2)
def zdy (m:Mo) (l:List Fc):Except Int Un:=
 if chkM m≠0 then .error (chkM m) else if l.length≠m.uses.length then .error 8 else if (l.zip m.uses).all za5 then zi2 m l else .error 1
theorem z1w {m:Mo} {l:List Fc} (hl:l.length=m.uses.length) (j:Nat) (h:j<l.length):((l.zip m.uses).take (j+1)).all za5=(((l.zip m.uses).take j).all za5&&za5 (l[j],m.uses[j]'(by omega))):=by
 have hz:j<(l.zip m.uses).length:=by rw [vdu];omega
 rw [vaf hz,vbo,vee];simp
theorem z4m {m:Mo} {l:List Fc} (hl:l.length=m.uses.length) (j:Nat) (h:j<l.length) (hf:za5 (l[j],m.uses[j]'(by omega))=false):(l.zip m.uses).all za5=false:=by
 have hz:j<(l.zip m.uses).length:=by rw [vdu];omega
 rw [vcp];exact ⟨(l.zip m.uses)[j],vag _,by rw [vee];simp [hf]⟩
theorem zys {m:Mo} {l:List Fc} (hl:l.length=m.uses.length) (h:(l.zip m.uses).all za5=true):∀ f ∈ l,f.items.length<=16:=by
 intro f hf;obtain ⟨j,hj,rfl⟩:=vay hf
 have hz:j<(l.zip m.uses).length:=by rw [vdu];omega
 have:=var.1 h _ (vag hz);rw [vee] at this;unfold za5 at this;simp only [vab,beq_iff_eq] at this;have hc:=this.1;unfold Fx.zk9 at hc
 by_cases FH:16<l[j].items.length
 . rw [if_pos FH] at hc;cases hc
 . omega
section
variable {P:Program} {ops:Array Oper} {Q:Exit->Act->World->Prop} {md:Region.Mode} {S:World->Prop} {o1:Op} {o2:TypeId} {o3:String} {o4:Array Edge} {o5:Option (Nat × Bool)} {v:Value} {Az:Nat} {Ap:Array Bool} {a:Act} {w:World}
theorem tq (i d:Nat) (hS:S w) (h:wpAnyH P md ops Q S Az (Ap.setIfInBounds i true) (a.put (some d) v) w) (hi:ops[i]? = some (Oper.mk (some d) o1 o2 o3 o4 o5):=by exact rfl)
 (hg:Region.wanted (Oper.mk (some d) o1 o2 o3 o4 o5) (yielded ops a.tmps)=true:=by rfl) (hy:∀ w,S w->(execOp a.eval (Oper.mk (some d) o1 o2 o3 o4 o5)).run P w = .ok (.value v) w:=by (intro w hSw;(try dsimp only at hSw);go_simp;(try with_reducible rfl)))
 (hb:(Region.noSelect ops&&(Region.free md ops Ap i&&(Region.ready md ops Ap).contains i))=true:=by kernel_rfl)
 (hQ:∀ c a w,Q (.panic c) (a.put (some d) v) w->Q (.panic c) a w:=by exact fun _ _ _ h=>h):wpAnyH P md ops Q S (Az+1) Ap a w:=by
 simp only [vab] at hb;exact wpAnyH_take hi hb.1 hb.2.1 hb.2.2 hQ (Or.inl ⟨hg,hy⟩) hS h
theorem tu (i d:Nat) (hS:S w) (h:wpAnyH P md ops Q S Az (Ap.setIfInBounds i true) (a.put (some d) undef) w) (hi:ops[i]? = some (Oper.mk (some d) o1 o2 o3 o4 o5):=by exact rfl)
 (hg:Region.wanted (Oper.mk (some d) o1 o2 o3 o4 o5) (yielded ops a.tmps)=false:=by rfl)
 (hb:(Region.noSelect ops&&(Region.free md ops Ap i&&(Region.ready md ops Ap).contains i))=true:=by kernel_rfl)
 (hQ:∀ c a w,Q (.panic c) (a.put (some d) undef) w->Q (.panic c) a w:=by exact fun _ _ _ h=>h):wpAnyH P md ops Q S (Az+1) Ap a w:=by
 simp only [vab] at hb;exact wpAnyH_take hi hb.1 hb.2.1 hb.2.2 hQ (Or.inr ⟨hg,rfl⟩) hS h
end
theorem zmy (a b:ByteArray):(a.toList == b.toList)=decide (a=b):=by
 rw [vcj];simp only [beq_iff_eq,decide_eq_true_eq]
 constructor
 . intro h
   rw [vbb,vbb] at h;exact zhn h
 . rintro rfl;rfl
theorem zr3 (f:Fc) (h:Fx.zk9 f≠0):Fx.zk9 f=1\/Fx.zk9 f=2:=by
 unfold Fx.zk9 at h ⊢;split
 . exact Or.inr rfl
 . rename_i h1
   rw [if_neg h1] at h;split
   . rename_i h2;rw [if_pos h2] at h;exact absurd rfl h
   . exact Or.inl rfl
theorem fits_cells {w W:World} {x0 x1 v1 z:Value} {t:TypeId} {b bu o:Nat} (hW:Below (w.alloc (.cells #[x0,x1] t)).heap.size (w.alloc (.cells #[x0,x1] t)) W) (h1:w.cell? (qa b 1)=some v1) (hb:b<w.heap.size) (h2:w.cell? (qa bu o)=some z) (FB:bu<w.heap.size) :
 W.cell? (qa w.heap.size 0)=some x0/\W.cell? (qa w.heap.size 1)=some x1/\W.cell? (qa b 1)=some v1/\W.cell? (qa bu o)=some z:=by
 obtain ⟨k0,k1,_⟩:=zcd ((hW.block w.heap.size (by simp)).trans (heap_newP w _));exact ⟨k0,k1,(hW.cell (p:=(qa b 1)) (by show b<_;simp;omega)).trans (((al1 w _).cell (p:=(qa b 1)) hb).trans h1),(hW.cell (p:=(qa bu o)) (by show bu<_;simp;omega)).trans (((al1 w _).cell (p:=(qa bu o)) FB).trans h2)⟩
theorem zr4 (m:Mo) (v:Value) (a1:OA) (c1:Nat) (a2:OA) (c2:Nat) (a3:OA) (c3:Nat) (a4:OA) (c4:Nat) (l:List Fc) (al:OA) (cl:Nat) (w:World) (hM:MoAt w Tt m v a1 c1 a2 c2 a3 c3 a4 c4) (hF:DAt w Tt al l.length (z4i l)) :
 qc 21 #[v,.slice al l.length cl] w fun e w'=>zyq w.heap.size (zdy m l) e w'/\qb w w':=by
 obtain rfl:=hM.val;have HM:=hid hM;have Kj:=hid hF;have Bt:=hF.bound;have FB:=hM.uses.bound;have HC:=hid (zf1 m _ a1 c1 a2 c2 a3 c3 a4 c4 ((w.alloc (kzG m.name a1 m.uses.length c1 a2 m.decls.length c2 a3 m.procs.length c3 a4 m.main.length c4)).alloc (kzC ⟨#[]⟩ none 0 0 0 none 0 0 none 0 0)) (hM.later (bl2 _ _ _)));clear hM hF
 obtain ⟨r,hr⟩:∃ r,r=zdy m l:=⟨_,rfl⟩
 rw [← hr];have FI:=hid hr;clear hr;go_enter Tryz.func21,Tryz.ntmps21;go_wp2_with fail;refine HC.out.mono ?_;rintro e w1 ⟨rfl,A5⟩;have A8:=hid (thenB (bl2 w _ _) A5);have Ao:=A5.size;simp at Ao;have P0:=hid ((A5.block w.heap.size (by simp;omega)).trans (zab (heap_newP w _)));have P1:Hid (w1.heap[w.heap.size+1]? = some (kzC ⟨#[]⟩ none 0 0 0 none 0 0 none 0 0)):=(A5.block (w.heap.size+1) (by simp)).trans (by simpa using heap_newP (w.alloc _) _);obtain ⟨x0,x1,x2,x3,x4,xf⟩:=zaa P0.out;obtain ⟨r0,r1,r2,r3,r4,rf⟩:=zaa P1.out;have GD:=lt_of_heap P0.out;have CY:=lt_of_heap P1.out;clear A5 HC
 by_cases hc:chkM m=0
 case neg=>
  have HR:Hid (r = .error (chkM m)):=FI.out.trans (if_pos hc);go_wp2_with fail;refine bodyPost_ret (v:=.tuple #[.agg #[.string ⟨#[]⟩,qs,qi 0,qs,qs],qi (chkM m)]) (by simp [results,Tryz.results21,go_sem,r0,r1,r2,r3,r4,CY]) rfl ⟨by rw [HR.out];exact ⟨rfl,hc⟩,?_⟩;exact zdg A8.out (by omega) _ _ _ _ _
 have AV:Hid (r=if l.length≠m.uses.length then .error 8 else if (l.zip m.uses).all za5 then zi2 m l else .error 1):=FI.out.trans (if_neg (by simp [hc]));have HZ:=hid hc;rw [hc];clear hc FI
 by_cases Ai:l.length=m.uses.length
 case neg=>
  have HR:Hid (r = .error 8):=AV.out.trans (if_pos Ai)
  have J9:¬ ((l.length:Int)=m.uses.length):=by omega
  go_wp2_with fail;refine bodyPost_ret (v:=.tuple #[.agg #[.string ⟨#[]⟩,qs,qi 0,qs,qs],qi 8]) (by simp [results,Tryz.results21,go_sem,r0,r1,r2,r3,r4,CY]) rfl ⟨by rw [HR.out];exact ⟨rfl,by decide⟩,?_⟩;exact zdg A8.out (by omega) _ _ _ _ _
 have Am:Hid (r=if (l.zip m.uses).all za5 then zi2 m l else .error 1):=AV.out.trans (if_neg (by simp [Ai]));have DN:=hid Ai;have KB:=(zex (zoa HZ.out)).1
 have Qm:(l.length:Int)=(m.uses.length:Int):=by omega
 clear AV Ai;go_wp2_with fail;clear Qm
 go_loopw [7,8,24] (fun _ _ i wr=>∃ j:Nat,j<=l.length/\i=qi j/\((l.zip m.uses).take j).all za5=true/\qb w1 wr) (fun _ _ i _=>l.length - (intOf i).toNat)
 case atStart=>exact ⟨0,vae _,rfl,rfl,Below.refl _ _⟩
 case round=>
  obtain ⟨j,hj,rfl,A6,E1⟩:=hrel;have PD:=hid A6;have HB:=hid E1;have BU:=E1.size;have Bp:=hid (thenB A8.out E1);have R0:=hid ((E1.block _ GD).trans P0.out);have R1:=hid ((E1.block _ CY).trans P1.out);clear A6 E1 x0 x1 x2 x3 x4 xf r0 r1 r2 r3 r4 rf;obtain ⟨x0,x1,x2,x3,x4,xf⟩:=zaa R0.out;obtain ⟨r0,r1,r2,r3,r4,rf⟩:=zaa R1.out;have LR:=lt_of_heap R0.out;have LT:=lt_of_heap R1.out
  by_cases A0:j<l.length
  . have Oi:j<m.uses.length:=by have:=DN.out;omega
    obtain ⟨b,off,aj,cj,rfl,Au,y0,y1,Bq,hdj⟩:=(Kj.out.later Bp.out).fc j A0;obtain ⟨bu,ou,rfl,Mq,z0,hzm⟩:=(HM.out.uses.later Bp.out).str j Oi;obtain ⟨Dp,HFj⟩:=zks hdj;have Tl:=hdj.bound;have BW:=hid (z1w DN.out j A0);have FK:=hid (z4m DN.out j A0)
    have Ii:(j:Int)<m.uses.length:=by omega
    generalize l[j]=f at *;generalize m.uses[j]'Oi=u at *;have ES:=hid (fun W (hW:qb wr W)=>Fx.zlw f aj cj W (Dp.later hW) (by omega) Bq HFj);have HS:=hid (fun W (hW:Below (wr.alloc (.cells #[.string f.name,.slice aj f.items.length cj] 30)).heap.size (wr.alloc (.cells #[.string f.name,.slice aj f.items.length cj] 30)) W)=>(fits_cells hW x1 LR z0 Mq:W.cell? (qa wr.heap.size 0)=some (.string f.name)/\W.cell? (qa wr.heap.size 1)=some (.slice aj f.items.length cj)/\W.cell? (qa w.heap.size 1)=some (.slice (some (qa bu ou)) m.uses.length c1)/\W.cell? ⟨bu,ou+j,none⟩=some (.string u)));have FF:=hid (HS.out _ (bdrew _));clear hdj Dp HFj
    by_cases F7:Fx.zk9 f=0
    . cases KD:decide (f.name=u) with
      | true=>
        have IC:Hid (za5 (f,u)=true):=by show za5 (f,u)=true;unfold za5;simp only [F7,KD];rfl
        have EM:Hid (((l.zip m.uses).take (j+1)).all za5=true):=BW.out.trans (by rw [PD.out,IC.out];rfl);rw [F7] at ES;have Cf:(f.name.toList == u.toList)=true:=(zmy _ _).trans KD;clear BW FK F7;go_wp2_with fail
        go_region_held (fun W=>W.cell? (qa wr.heap.size 0)=some (.string f.name)/\W.cell? (qa wr.heap.size 1)=some (.slice aj f.items.length cj)/\W.cell? (qa w.heap.size 1)=some (.slice (some (qa bu ou)) m.uses.length c1)/\W.cell? ⟨bu,ou+j,none⟩=some (.string u)) (exact FF.out)
         (first | (go_at_call 19;refine (ES.out _ (zbd wr _)).mono ?_;rintro e w3 ⟨rfl,A9⟩;have Af:=hid (thenB (bdrew (wr.alloc (.cells #[.string f.name,.slice aj f.items.length cj] 30))) A9);have FF:=hid (HS.out _ Af.out);clear A9))
        have Gq:=hid (thenB (thenB Bp.out (al1 wr (.cells #[.string f.name,.slice aj f.items.length cj] 30))) Af.out);have BO:=Af.out.size;simp at BO;have v1:=(Af.out.block _ (by simp;omega)).trans (zab (o:=(.cells #[.string f.name,.slice aj f.items.length cj] 30)) R1.out);clear r0 r1 r2 r3 r4 rf;obtain ⟨r0,r1,r2,r3,r4,rf⟩:=zaa v1;have DX:=lt_of_heap v1;clear v1;go_wp2_with fail;go_roundw
        case rel=>exact ⟨j+1,by omega,by go_num,EM.out,thenB (thenB HB.out (al1 wr _)) Af.out⟩
        case measure=>simp [intOf];omega
      | false=>
        have IC:Hid (za5 (f,u)=false):=by show za5 (f,u)=false;unfold za5;simp only [KD,Bool.and_false]
        rw [F7] at ES;have Cf:(f.name.toList == u.toList)=false:=(zmy _ _).trans KD;clear BW F7;have HR:Hid (r = .error 1):=Am.out.trans (if_neg (by rw [FK.out IC.out];decide));go_wp2_with fail
        go_region_held (fun W=>W.cell? (qa wr.heap.size 0)=some (.string f.name)/\W.cell? (qa wr.heap.size 1)=some (.slice aj f.items.length cj)/\W.cell? (qa w.heap.size 1)=some (.slice (some (qa bu ou)) m.uses.length c1)/\W.cell? ⟨bu,ou+j,none⟩=some (.string u)) (exact FF.out)
         (first | (go_at_call 19;refine (ES.out _ (zbd wr _)).mono ?_;rintro e w3 ⟨rfl,A9⟩;have Af:=hid (thenB (bdrew (wr.alloc (.cells #[.string f.name,.slice aj f.items.length cj] 30))) A9);have FF:=hid (HS.out _ Af.out);clear A9))
        have Gq:=hid (thenB (thenB Bp.out (al1 wr (.cells #[.string f.name,.slice aj f.items.length cj] 30))) Af.out);have BO:=Af.out.size;simp at BO;have v1:=(Af.out.block _ (by simp;omega)).trans (zab (o:=(.cells #[.string f.name,.slice aj f.items.length cj] 30)) R1.out);clear r0 r1 r2 r3 r4 rf;obtain ⟨r0,r1,r2,r3,r4,rf⟩:=zaa v1;have DX:=lt_of_heap v1;clear v1;go_wp2_with fail;refine bodyPost_ret (v:=.tuple #[.agg #[.string ⟨#[]⟩,qs,qi 0,qs,qs],qi 1]) (by simp [results,Tryz.results21,go_sem,r0,r1,r2,r3,r4,DX]) rfl ⟨by rw [HR.out];exact ⟨rfl,by decide⟩,?_⟩;exact zdg Gq.out (by omega) _ _ _ _ _
    . have IC:Hid (za5 (f,u)=false):=by show za5 (f,u)=false;unfold za5;simp only [beq_eq_false_iff_ne.2 F7,vej]
      clear BW
      rcases zr3 f F7 with Bg | C1
      . rw [Bg] at ES
        clear F7 Bg;have HR:Hid (r = .error 1):=Am.out.trans (if_neg (by rw [FK.out IC.out];decide));go_wp2_with fail;refine wp_region_held_drew (S:=(fun W=>W.cell? (qa wr.heap.size 0)=some (.string f.name)/\W.cell? (qa wr.heap.size 1)=some (.slice aj f.items.length cj)/\W.cell? (qa w.heap.size 1)=some (.slice (some (qa bu ou)) m.uses.length c1)/\W.cell? ⟨bu,ou+j,none⟩=some (.string u))) (by kernel_rfl) FF.out (fun A4=>?_);refine tq 0 29 A4 ?_
        (try simp only [Act.put,vad,van,vao])
        refine wpAnyH_ready (rs:=[1]) (by kernel_rfl) (by simp) ?_;refine AllReadyH.cons rfl (fun K hK=>?_) AllReadyH.nil;go_simp
        go_wp2_with (go_at_call 19;refine (ES.out _ (zbd wr _)).mono ?_;rintro e w3 ⟨rfl,A9⟩)
        have Af:=hid (thenB (bdrew (wr.alloc (.cells #[.string f.name,.slice aj f.items.length cj] 30))) A9);clear A9;refine hK.out _ _ (HS.out _ Af.out) (fun A4=>?_);clear hK K;refine tq 2 31 A4 ?_
        (try simp only [Act.put,vad,van,vao])
        refine tq 3 32 A4 ?_
        (try simp only [Act.put,vad,van,vao])
        refine tu 4 33 A4 ?_
        (try simp only [Act.put,vad,van,vao])
        refine tu 5 34 A4 ?_
        (try simp only [Act.put,vad,van,vao])
        refine tu 6 35 A4 ?_
        (try simp only [Act.put,vad,van,vao])
        refine tu 7 36 A4 ?_
        (try simp only [Act.put,vad,van,vao])
        refine tu 8 37 A4 ?_
        (try simp only [Act.put,vad,van,vao])
        refine tu 9 38 A4 ?_
        (try simp only [Act.put,vad,van,vao])
        refine tu 10 39 A4 ?_
        (try simp only [Act.put,vad,van,vao])
        refine tu 11 40 A4 ?_
        (try simp only [Act.put,vad,van,vao])
        refine tq 12 41 A4 ?_
        (try simp only [Act.put,vad,van,vao])
        refine wpAnyH_done (by kernel_rfl) ?_ _;have Gq:=hid (thenB (thenB Bp.out (al1 wr (.cells #[.string f.name,.slice aj f.items.length cj] 30))) Af.out);have BO:=Af.out.size;simp at BO;have v1:=(Af.out.block _ (by simp;omega)).trans (zab (o:=(.cells #[.string f.name,.slice aj f.items.length cj] 30)) R1.out);clear r0 r1 r2 r3 r4 rf;obtain ⟨r0,r1,r2,r3,r4,rf⟩:=zaa v1;have DX:=lt_of_heap v1;clear v1;go_wp2_with fail;refine bodyPost_ret (v:=.tuple #[.agg #[.string ⟨#[]⟩,qs,qi 0,qs,qs],qi 1]) (by simp [results,Tryz.results21,go_sem,r0,r1,r2,r3,r4,DX]) rfl ⟨by rw [HR.out];exact ⟨rfl,by decide⟩,?_⟩;exact zdg Gq.out (by omega) _ _ _ _ _
      . rw [C1] at ES
        clear F7 C1;have HR:Hid (r = .error 1):=Am.out.trans (if_neg (by rw [FK.out IC.out];decide));go_wp2_with fail;refine wp_region_held_drew (S:=(fun W=>W.cell? (qa wr.heap.size 0)=some (.string f.name)/\W.cell? (qa wr.heap.size 1)=some (.slice aj f.items.length cj)/\W.cell? (qa w.heap.size 1)=some (.slice (some (qa bu ou)) m.uses.length c1)/\W.cell? ⟨bu,ou+j,none⟩=some (.string u))) (by kernel_rfl) FF.out (fun A4=>?_);refine tq 0 29 A4 ?_
        (try simp only [Act.put,vad,van,vao])
        refine wpAnyH_ready (rs:=[1]) (by kernel_rfl) (by simp) ?_;refine AllReadyH.cons rfl (fun K hK=>?_) AllReadyH.nil;go_simp
        go_wp2_with (go_at_call 19;refine (ES.out _ (zbd wr _)).mono ?_;rintro e w3 ⟨rfl,A9⟩)
        have Af:=hid (thenB (bdrew (wr.alloc (.cells #[.string f.name,.slice aj f.items.length cj] 30))) A9);clear A9;refine hK.out _ _ (HS.out _ Af.out) (fun A4=>?_);clear hK K;refine tq 2 31 A4 ?_
        (try simp only [Act.put,vad,van,vao])
        refine tq 3 32 A4 ?_
        (try simp only [Act.put,vad,van,vao])
        refine tu 4 33 A4 ?_
        (try simp only [Act.put,vad,van,vao])
        refine tu 5 34 A4 ?_
        (try simp only [Act.put,vad,van,vao])
        refine tu 6 35 A4 ?_
        (try simp only [Act.put,vad,van,vao])
        refine tu 7 36 A4 ?_
        (try simp only [Act.put,vad,van,vao])
        refine tu 8 37 A4 ?_
        (try simp only [Act.put,vad,van,vao])
        refine tu 9 38 A4 ?_
        (try simp only [Act.put,vad,van,vao])
        refine tu 10 39 A4 ?_
        (try simp only [Act.put,vad,van,vao])
        refine tu 11 40 A4 ?_
        (try simp only [Act.put,vad,van,vao])
        refine tq 12 41 A4 ?_
        (try simp only [Act.put,vad,van,vao])
        refine wpAnyH_done (by kernel_rfl) ?_ _;have Gq:=hid (thenB (thenB Bp.out (al1 wr (.cells #[.string f.name,.slice aj f.items.length cj] 30))) Af.out);have BO:=Af.out.size;simp at BO;have v1:=(Af.out.block _ (by simp;omega)).trans (zab (o:=(.cells #[.string f.name,.slice aj f.items.length cj] 30)) R1.out);clear r0 r1 r2 r3 r4 rf;obtain ⟨r0,r1,r2,r3,r4,rf⟩:=zaa v1;have DX:=lt_of_heap v1;clear v1;go_wp2_with fail;refine bodyPost_ret (v:=.tuple #[.agg #[.string ⟨#[]⟩,qs,qi 0,qs,qs],qi 1]) (by simp [results,Tryz.results21,go_sem,r0,r1,r2,r3,r4,DX]) rfl ⟨by rw [HR.out];exact ⟨rfl,by decide⟩,?_⟩;exact zdg Gq.out (by omega) _ _ _ _ _
  . obtain rfl:j=l.length:=by omega
    have F0:¬ (l.length<m.uses.length):=by have:=DN.out;omega
    have PE:Hid ((l.zip m.uses).all za5=true):=by have:=PD.out;rw [vau (by rw [vdu];omega)] at this;exact this
    have HR:Hid (r=zi2 m l):=Am.out.trans (if_pos PE.out);have BX:=hid (z1v m _ a1 c1 a2 c2 a3 c3 a4 c4 l al cl wr (HM.out.later Bp.out) (zoa HZ.out) (Kj.out.later Bp.out) (by have:=DN.out;omega) (zys DN.out PE.out));go_wp2_with fail;refine BX.out.mono ?_;rintro e w5 ⟨Ak,Aq⟩;have Ar:=hid (thenB Bp.out Aq);have Cc:=Aq.size;have v1:=(Aq.block _ LT).trans R1.out;clear r0 r1 r2 r3 r4 rf;obtain ⟨r0,r1,r2,r3,r4,rf⟩:=zaa v1;have Je:=lt_of_heap v1;clear Aq v1 BX
    cases hq:zi2 m l with
    | error c=>
      rw [hq] at Ak;obtain ⟨rfl,Aj⟩:=Ak;have N0:Hid (r = .error c):=HR.out.trans hq;clear hq;go_wp2_with fail;refine bodyPost_ret (v:=.tuple #[.agg #[.string ⟨#[]⟩,qs,qi 0,qs,qs],qi c]) (by simp [results,Tryz.results21,go_sem,r0,r1,r2,r3,r4,Je]) rfl ⟨by rw [N0.out];exact ⟨rfl,Aj⟩,?_⟩;exact zdg Ar.out (by omega) _ _ _ _ _
    | ok q=>
      rw [hq] at Ak;obtain ⟨g1,k1,g2,k2,g3,k3,rfl,he1,EH,he3⟩:=Ak;have N0:Hid (r = .ok q):=HR.out.trans hq
      have EO:Hid (∀ v0 v1 v2 v3 v4,zad w5 (wr.heap.size<=·) (set5 w5 (w.heap.size+1) v0 v1 v2 v3 v4) (w.heap.size<=·)):=fun v0 v1 v2 v3 v4=>
       ((zad.refl w5 (wr.heap.size<=·)).set5 (b:=w.heap.size+1) (fun b _ hb=>by have:wr.heap.size<=b:=hb;omega) v0 v1 v2 v3 v4).trans ⟨vaa _,fun b _ h=>⟨by have:wr.heap.size<=b:=h;show w.heap.size<=b;omega,rfl⟩⟩
      have BR:=hid he1;have Bv:=hid EH;have IE:=hid he3;clear hq he1 EH he3;go_wp2_with fail;refine bodyPost_ret (v:=.tuple #[.agg #[.string q.name,.slice g1 q.uses.length k1,qi q.data,.slice g2 q.parts.length k2,.slice g3 q.main.length k3],qi 0]) (by simp [results,Tryz.results21,go_sem,r0,r1,r2,r3,r4,Je]) rfl ⟨?_,?_⟩
      . rw [N0.out]
        exact ⟨g1,k1,g2,k2,g3,k3,rfl,BR.out.moves (EO.out _ _ _ _ _),Bv.out.moves (EO.out _ _ _ _ _),IE.out.moves (EO.out _ _ _ _ _)⟩
      . exact zdg Ar.out (by omega) _ _ _ _ _
end Go.Proofs.YtndkhgakfodldaaGreatDoor

namespace Go.Proofs.YtndkhgakfodldaaGreatDoor
open Go.RowKit
set_option linter.unusedSimpArgs false
set_option linter.unusedVariables false
theorem zyt {n:Int} (h1 : -1000000000000000<=n) (h2:n<=1000000000000000):(Lit.int .i64 n).wf=true:=by
 simp only [Lit.wf,vab,decide_eq_true_eq];exact ⟨by show (-9223372036854775808:Int)<=n;omega,by show n<=(9223372036854775807:Int);omega⟩
end Go.Proofs.YtndkhgakfodldaaGreatDoor

namespace Go.Proofs.YtndkhgakfodldaaGreatDoor
set_option maxRecDepth 100000
set_option maxHeartbeats 800000
open Go.RowKit Go.Maps Go.WideMaps
set_option linter.unusedSimpArgs false
set_option linter.unusedVariables false
theorem zof {W:World} {base:Nat} {t:TypeId} {sz:Nat} {a:OA} {n cap:Nat} {xs:List Value} {ds:List D} (h:W.ownsRow base t sz (.slice a n cap) n xs) (hx:zan W Tt ds xs) (h1:n<=ds.length) (h2:ds.length<=17592186044416):DAt W Tt a n ds:=by
 refine ⟨h1,h2,?_⟩
 rcases h.2 with ⟨e,h0⟩ | ⟨g,cap',AC,e,_,hg,_⟩
 . exact Or.inl h0
 . cases e
   refine Or.inr ⟨g,0,xs,rfl,trivial,lt_of_heap hg,fun j u hj=>?_,hx⟩;have:=h.cells (g:=g) rfl j u hj;rw [show ((qa g 0):Addr).add j=(qa g j) from by unfold Addr.add;split<;>simp_all] at this
   rw [vax];exact this
def zez (n:Int):Prop:=-1000000000000000<=n/\n<=1000000000000000
theorem zkv {W:World} {n:Int} (h:zez n):zcv W Tt (.int n) (qi n):=zc6 (zyt h.1 h.2)
theorem zt0 {W:World}:∀ (l:List Gi),(∀ i ∈ l,zez i.op/\zez i.a/\zez i.b)->zan W Tt (zvt l) (zdl l)
 | [],_=>zan.nil
 | i :: r,h=>by
   have h1:=h i (vap ..);simp only [zvt,zdl,vbj];exact zan.append (.cons (zkv h1.1) (.cons (zkv h1.2.1) (.cons (zkv h1.2.2) .nil))) (zt0 r (fun j hj=>h j (vaj _ hj)))
theorem zt1 {W:World}:∀ (l:List Gf),(∀ i ∈ l,zez i.at_/\zez i.kind/\zez i.m)->zan W Tt (z19 l) (z15 l)
 | [],_=>zan.nil
 | i :: r,h=>by
   have h1:=h i (vap ..);simp only [z19,z15,vbj];exact zan.append (.cons (zkv h1.1) (.cons (zkv h1.2.1) (.cons (zkv h1.2.2) .nil))) (zt1 r (fun j hj=>h j (vaj _ hj)))
theorem zp8 {W:World}:∀ (l:List Int),(∀ i ∈ l,zez i)->zan W Tt (zfm l) (intV l)
 | [],_=>zan.nil
 | i :: r,h=>.cons (zkv (h i (vap ..))) (zp8 r (fun j hj=>h j (vaj _ hj)))
theorem zp9 {W:World}:∀ (l:List ByteArray),(∀ s ∈ l,s.size<=maxLen)->zan W Tt (zaw l) (strV l)
 | [],_=>zan.nil
 | i :: r,h=>.cons (zed (h i (vap ..))) (zp9 r (fun j hj=>h j (vaj _ hj)))
theorem zt2 (l:List Gi):(zvt l).length=l.length*3:=by
 induction l with
 | nil=>rfl
 | cons x r ih=>simp only [zvt,vbj,vak,vaw] at ih ⊢;rw [ih];simp [Gi.ds];omega
theorem zt3 (l:List Gf):(z19 l).length=l.length*3:=by
 induction l with
 | nil=>rfl
 | cons x r ih=>simp only [z19,vbj,vak,vaw] at ih ⊢;rw [ih];simp [Gf.ds];omega
theorem z2s (N:Int):∀ (e:List Gf) (lo:Int),lo<=N->e.Pairwise (fun f g=>f.at_<g.at_)->(∀ f ∈ e,lo<=f.at_/\f.at_<N)->(e.length:Int)<=N - lo
 | [],lo,h,_,_=>by simp;omega
 | f :: r,lo,h,hp,hb=>by
   rw [List.pairwise_cons] at hp;have h1:=hb f (vap ..);have:=z2s N r (f.at_+1) (by omega) hp.2 (fun g hg=>⟨by have:=hp.1 g hg;omega,(hb g (vaj _ hg)).2⟩);rw [vaw];omega
theorem z4n {u:Un} {o:Ob} (h:zvs u = .ok o):o=zop u/\zen u zic zhw=true/\Go.Lib.containsS u.uses u.name=false/\zgz (genS u)=false:=by
 unfold zvs at h
 split at h
 . cases h
 . rename_i h1
   split at h
   . cases h
   . rename_i h2
     cases h;simp only [vcs,vas] at h1;exact ⟨rfl,by simpa using h1.2,h1.1,by simpa using h2⟩
theorem zyu {u:Un} (h:zen u zic zhw=true):(∀ i ∈ (genS u).code,zez i.op/\zez i.a/\zez i.b)/\(∀ f ∈ (genS u).fixes,zez f.at_/\zez f.kind/\zez f.m)/\(∀ x ∈ entsW u.parts,zez x)/\zez ((zbv u.parts).code.length:Int)/\(genS u).fixes.length<=33000:=by
 obtain ⟨ha,_,hl,hs⟩:=zzw h;have hb:=zso h;have h3:=zid (zbs h).2.2;obtain ⟨e,he,hp,hr⟩:=ha.fx
 have Fv:(genS u).fixes=e:=by rw [he];rfl
 subst Fv;refine ⟨fun i hi=>?_,fun f hf=>?_,fun x hx=>?_,by unfold zez;omega,?_⟩
 . obtain ⟨k,hk,rfl⟩:=vay hi
   have:=ha.ins k _ (vae _) (vac hk);unfold inR at this;unfold zez;omega
 . obtain ⟨k,i,hi,hk,_,hx⟩:=hr f hf
   have:=zdm hi;unfold zez
   rcases hx with ⟨h1,h2,_⟩ | ⟨h1,_,_,h4⟩<;>omega
 . rw [zqs,vcw] at hx
   obtain ⟨b,AZ,e⟩:=hx;have:=hs b AZ;unfold zez;omega
 . have:=z2s ((genS u).code.length:Int) (genS u).fixes 0 (by omega) hp (fun f hf=>by
    obtain ⟨k,i,hi,hk,_,_⟩:=hr f hf;have:=zdm hi
    omega)
   omega
theorem z4o {W:World} {base:Nat} {t:TypeId} {sz:Nat} {a:OA} {n cap:Nat} {xs:List Value} (h:W.ownsRow base t sz (.slice a n cap) n xs):n<=cap:=by
 obtain ⟨_,_,e,h1,_⟩:=zag h
 cases e
 exact h1
theorem z2t {u:Un} {o:Ob} (hg:zvs u = .ok o) {x1:OA} {y1:Nat} {x2:OA} {y2:Nat} {x3:OA} {y3:Nat} {w:World} (hU:UvAt w u x1 y1 x2 y2 x3 y3) :
 qc 31 #[.agg #[.string u.name,.slice x1 u.uses.length y1,qi u.data,.slice x2 u.parts.length y2,.slice x3 u.main.length y3]] w fun e w'=>∃ x1 y1 x3 y3 x4 y4 x5 y5,e = .returned (.tuple #[.agg #[.string o.name,.slice x1 o.uses.length y1,qi o.data,.slice x3 o.code.length y3,.slice x4 o.fixes.length y4,.slice x5 o.entries.length y5,qi o.main],qi 0])/\OvAt w' o x1 x3 x4 x5/\o.uses.length<=y1/\qb w w':=
 (z43 u x1 y1 x2 y2 x3 y3 w hU).mono fun e w' ⟨h,hb⟩=>by
   obtain ⟨rfl,hh,hc,hf⟩:=z4n hg;unfold zit at h;rw [hg] at h;obtain ⟨ua,uc,ca,cc,fa,fc,ea,ec,he,h1,h2,h3,h4⟩:=h;obtain ⟨s1,s2,s3,s4,s5⟩:=zyu hh;have hd:=zh9 (zbs hh).2.2;have hu:=zid (zbs hh).2.2;have h6:=zht (zbs hh).2.2;have Ei:(zop u).entries.length=u.parts.length:=zdb ..;have DY:=zso hh;refine ⟨ua,uc,ca,cc,fa,fc,ea,ec,he,⟨hU.wn,?_,zyt (by show _<=u.data;omega) (by show u.data<=_;omega),?_,?_,?_,zyt s4.1 s4.2⟩,z4o h1,hb⟩
   . exact zof h1 (zp9 _ (zc9 hU.uses).2) (by simp [zaw]) (by show (zaw u.uses).length<=_;simp [zaw];omega)
   . exact zof h2 (zt0 _ s1) (by rw [zt2];omega) (by rw [zt2];show (genS u).code.length*3<=_;omega)
   . exact zof h3 (zt1 _ s2) (by rw [zt3];omega) (by rw [zt3];show (genS u).fixes.length*3<=_;omega)
   . exact zof h4 (zp8 _ s3) (by simp [zfm]) (by rw [show (zfm (zop u).entries).length=(zop u).entries.length from by simp [zfm],Ei];omega)
end Go.Proofs.YtndkhgakfodldaaGreatDoor

namespace Go.Proofs.YtndkhgakfodldaaGreatDoor
set_option maxRecDepth 100000
set_option maxHeartbeats 6400000
open Go.RowKit Go.Shelf
set_option linter.unusedSimpArgs false
set_option linter.unusedVariables false
section
variable {P:Program} {ops:Array Oper} {o:Oper} {a:Act} {w:World} {K:Act->World->Prop} {Q:Exit->Act->World->Prop} {E:Prop}
theorem run_callN (f:FuncId) (xs:Array Operand) (Fe:Array TypeId) (ho:o.op = .call { callee:=.value (.func f),args:=xs,argTypes:=Fe })
 (C7:Enters P f) (vs:Array Value) (hx:xs.map a.eval=vs):(execOp a.eval o).run P w = .ok (.enter f vs) w:=by
 have h:=C7 vs w;have hf:a.eval (.func f) = .func (.func f) #[] #[]:=rfl;simp [execOp,ho,resolve,invoke,hx,hf,h,Deferred.ofValue]
end
set_option maxHeartbeats 1600000
set_option maxHeartbeats 6400000
theorem DAt.lower {w:World} {a:OA} {n:Nat} {ds:List D} (h:DAt w Tt a n ds):DAt w (·<w.heap.size) a n ds:=h.moves ⟨vaa _,fun b hb _=>⟨hb,rfl⟩⟩
end Go.Proofs.YtndkhgakfodldaaGreatDoor
