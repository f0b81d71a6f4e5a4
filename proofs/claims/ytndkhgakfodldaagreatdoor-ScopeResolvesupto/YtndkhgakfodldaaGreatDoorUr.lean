import Derived.Test.YtndkhgakfodldaaGreatDoorUn
import Derived.Deep.RegionHeldLaw
import Derived.Deep.DeepCutAuto
namespace Go.Proofs.YtndkhgakfodldaaGreatDoor
set_option maxRecDepth 100000
set_option maxHeartbeats 8000000
open Go.RowKit Go.Maps Go.WideMaps
set_option linter.unusedSimpArgs false
theorem ziw {ops:Array Oper} {o:Oper} {a:Act} {K:Act->World->Prop} {Q:Exit->Act->World->Prop} {E:Prop} {w:World} (hgd:o.guard=none) (s x:Operand)
 (ho:o.op = .call { callee:=.builtin .append,args:=#[s,x],argTypes:=#[22,22] }) (us:List ByteArray) (b:OA) (c:Nat) (hs:a.eval s = .slice none 0 0) (hx:a.eval x = .slice b us.length c) (hS:Fx.zd2 w b us) (hlen:us.length<=10000)
 (h:∀ v' w',w'.ownsRow w.heap.size 9 1 v' us.length (strV us)->Below w.heap.size w w'->K (a.put o.dst v') w') :
 if Region.wanted o (yielded ops a.tmps)=true then Oper.wp Tryz.prog o a w K Q else E:=by
 have hw:Region.wanted o (yielded ops a.tmps)=true:=by simp [Region.wanted,hgd]
 rw [if_pos hw];obtain ⟨v',w',hr,h2,h3⟩:=zee w.heap.size o.type (.slice none 0 0) 0 [] (veg _ _ _ _) us b c hS (by omega) (vaa _);refine Lib.wp_append_run w s x _ _ ho _ _ hs hx v' w' hr (h v' w' (by simpa using h2) ?_);exact (Below.refl w.heap.size w).grown h3 (vaa _) (fun k hk=>by simp [Value.ownBlock] at hk)
theorem Tryz.infoPart:(Tryz.prog.info? 106).map (fun i=>(i.zero,i.size,i.bytes))=some (some (.agg #[.int .i64 0,.int .i64 0,.slice none 0 0]),3,40):=by kernel_rfl
theorem znb {A:Nat->Prop} {t:Pt} {w:World} {a:OA} {cap:Nat} (h:EAt w A a t.body.length (zc2 t.body)):zap w A t.ds [.int .i64 t.params,.int .i64 t.locals,.slice a t.body.length cap]:=.cons zni (.cons zni (.cons h.val .nil))
theorem zhs (l:List Pt) (x:Pt):ptsD (l++[x])=ptsD l++x.ds:=by simp [ptsD]
theorem zrt {w:World} {b:Nat} {x0 x1 x2 x3 x4:Value} {t:TypeId} (h:w.heap[b]? = some (.cells #[x0,x1,x2,x3,x4] t (0,0))):w.cell? ⟨b,0,none⟩=some x0/\w.cell? ⟨b,1,none⟩=some x1/\w.cell? ⟨b,2,none⟩=some x2/\w.cell? ⟨b,3,none⟩=some x3/\w.cell? ⟨b,4,none⟩=some x4/\(∀ i,w.frozen? ⟨b,i,none⟩=false)/\b<w.heap.size:=by
 obtain ⟨h0,h1,h2,h3,h4,h5⟩:=zac h;exact ⟨h0,h1,h2,h3,h4,h5,zaa h⟩
theorem zkg {W:World} {b:Nat} {x0 x1:Value} (hb:b<W.heap.size) (h:W.cell? ⟨b,0,none⟩=some x0/\W.cell? ⟨b,1,none⟩=some x1) (o:Obj):(W.alloc o).cell? ⟨b,0,none⟩=some x0/\(W.alloc o).cell? ⟨b,1,none⟩=some x1:=
 ⟨((al1 W o).cell (p:=⟨b,0,none⟩) hb).trans h.1,((al1 W o).cell (p:=⟨b,1,none⟩) hb).trans h.2⟩
theorem zth {W:World} {b:Nat} {x0 x1:Value} (hb:b<W.heap.size) (h:W.cell? ⟨b,0,none⟩=some x0/\W.cell? ⟨b,1,none⟩=some x1) (o:Obj):(W.alloc o).drew.cell? ⟨b,0,none⟩=some x0/\(W.alloc o).drew.cell? ⟨b,1,none⟩=some x1:=zkg hb h o
theorem z0n {W:World} {b c:Nat} {x0 x1:Value} (hn:b≠c) (h:W.cell? ⟨b,0,none⟩=some x0/\W.cell? ⟨b,1,none⟩=some x1) (u0 u1 u2 u3 u4:Value) :
 (((((W.setCell ⟨c,0,none⟩ u0).setCell ⟨c,1,none⟩ u1).setCell ⟨c,2,none⟩ u2).setCell ⟨c,3,none⟩ u3).setCell ⟨c,4,none⟩ u4).cell? ⟨b,0,none⟩=some x0/\(((((W.setCell ⟨c,0,none⟩ u0).setCell ⟨c,1,none⟩ u1).setCell ⟨c,2,none⟩ u2).setCell ⟨c,3,none⟩ u3).setCell ⟨c,4,none⟩ u4).cell? ⟨b,1,none⟩=some x1:=by
 have e:(((((W.setCell ⟨c,0,none⟩ u0).setCell ⟨c,1,none⟩ u1).setCell ⟨c,2,none⟩ u2).setCell ⟨c,3,none⟩ u3).setCell ⟨c,4,none⟩ u4).heap[b]? = W.heap[b]?:=(heap_set_ne hn _).trans ((heap_set_ne hn _).trans ((heap_set_ne hn _).trans ((heap_set_ne hn _).trans (heap_set_ne hn _))));exact ⟨(vee (w:=W) (a:=⟨b,0,none⟩) e).trans h.1,(vee (w:=W) (a:=⟨b,1,none⟩) e).trans h.2⟩
theorem bdrew (w:World):Below w.heap.size w w.drew:=(Below.refl _ _).drew
theorem zht (w:World) (o:Obj):Below w.heap.size w (w.alloc o).drew:=((Below.refl _ w).alloc (vaa _) o).drew
theorem zti {w wu:World} {x0 x1 x2 x3 x4:Value} {t:TypeId} (hb:Below (w.alloc (.cells #[x0,x1,x2,x3,x4] t)).drew.heap.size (w.alloc (.cells #[x0,x1,x2,x3,x4] t)).drew wu) :
 wu.cell? ⟨w.heap.size,0,none⟩=some x0/\wu.cell? ⟨w.heap.size,1,none⟩=some x1/\wu.cell? ⟨w.heap.size,2,none⟩=some x2/\wu.cell? ⟨w.heap.size,3,none⟩=some x3/\wu.cell? ⟨w.heap.size,4,none⟩=some x4/\(∀ i,wu.frozen? ⟨w.heap.size,i,none⟩=false)/\w.heap.size<wu.heap.size:=by
 have h:wu.heap[w.heap.size]? = some (.cells #[x0,x1,x2,x3,x4] t):=(hb.block w.heap.size (by show w.heap.size<(w.alloc _).heap.size;simp)).trans (heap_newP w _);obtain ⟨h0,h1,h2,h3,h4,h5⟩:=zac h;exact ⟨h0,h1,h2,h3,h4,h5,zaa h⟩
theorem zl6 {A:Nat->Prop} {w:World}:∀ (l:List ByteArray),(∀ s ∈ l,s.size<=maxLen)->zap w A (zan l) (strV l)
 | [],_=>.nil
 | s :: r,h=>.cons (zs5 (h s (by simp))) (zl6 r fun x hx=>h x (by simp [hx]))
theorem zyk {w:World} {B:Nat} {v:Value} {l:List ByteArray} (h:w.ownsRow B 9 1 v l.length (strV l)) (hs:∀ s ∈ l,s.size<=maxLen):∀ a cap,v = .slice a l.length cap->EAt w (B<=·) a l.length (zan l):=by
 rintro a cap rfl;exact EAt.of_own h (fun _ h=>h) (zl6 l hs)
theorem zyl (m:Mo) (v:Value) (a1:OA) (c1:Nat) (a2:OA) (c2:Nat) (a3:OA) (c3:Nat) (a4:OA) (c4:Nat) (l:List Fc) (al:OA) (cl:Nat) (w:World) (hM:MoAt w Tt m v a1 c1 a2 c2 a3 c3 a4 c4) (he:m.err=0) (hF:DAt w Tt al l.length (ztt l)) (hl3:l.length<=3) (h16:∀ f ∈ l,f.items.length<=16) :
 Calls Tryz.prog 64 #[v,.slice al l.length cl] w fun e w'=>zqe w.heap.size (zf8 m l) e w'/\Below w.heap.size w w':=by
 obtain rfl:=hM.val;have HM:=hid hM;have HLy:=zol he;have HPa:=hid (zc5 he);have HFs:=hid hF;have H16:=hid h16;have HC:=hid (zib m _ a1 c1 a2 c2 a3 c3 a4 c4 ((w.alloc (.cells #[.string m.name,.slice a1 m.uses.length c1,.slice a2 m.decls.length c2,.slice a3 m.procs.length c3,.slice a4 m.main.length c4] 27)).alloc (.cells #[.string ⟨#[]⟩,.slice none 0 0,.int .i64 0,.slice none 0 0,.slice none 0 0] 42)) (hM.later (bl2 _ _ _)) HLy)
 have HIl:Hid ((layItems m).length<=16):=by have h1:=HLy.decls;have h2:=HLy.procs;show (layItems m).length<=16;rw [zc4];omega
 have hd10:=HLy.decls;have hp6:=HLy.procs;clear hM hF h16 he HLy;go_enter Tryz.func64,Tryz.ntmps64;go_wp2_with fail;refine HC.out.mono ?_;rintro e w1 ⟨⟨ai,ci,rfl,hit⟩,hb1⟩;have HB1:=hid (thenB (bl2 w _ _) hb1);have hz1:=hb1.size;simp at hz1;have P0:=hid ((hb1.block w.heap.size (by simp;omega)).trans (zad (heap_newP w _)));have P1:Hid (w1.heap[w.heap.size+1]? = some (.cells #[.string ⟨#[]⟩,.slice none 0 0,.int .i64 0,.slice none 0 0,.slice none 0 0] 42)):=(hb1.block (w.heap.size+1) (by simp)).trans (by simpa using heap_newP (w.alloc _) _);obtain ⟨HI,HF⟩:=zfz hit;have HIt:=hid HI;have HFi:=hid HF;have hmm:=@run_makeMap Tryz.prog;have HKm0:=hid ((zkn.made w1).later (al1 _ (.cells #[.map (some w1.heap.size)] 189)));have HIb:=hid (zkf HI (R:=w1.heap.size) (vaa _));have HC2:=hid (zkb (fun _ _=>none) w1.heap.size 0 ⟨#[]⟩ 0 (layItems m) ai ci ((w1.alloc (.map #[] 0)).alloc (.cells #[.map (some w1.heap.size)] 189)) HKm0.out (vad _) (HI.later (bl2 _ _ _)) HF (by have:=HIl.out;omega) (by omega) HIb.out)
 clear hb1 hit HI HF HC;go_wp2_with fail;refine HC2.out.mono ?_;rintro e w2 ⟨rfl,hkm,hke⟩
 have HKm:Hid (zkn w2 w1.heap.size (layItems m).length (zwi m)):=by have:=hkm;rw [vbc] at this;exact this
 have HE:=hid hke;clear hkm hke HC2 hmm HKm0;go_wp2_with fail
 go_loopw [9,10,30] (fun _ _ i wr=>∃ (j n:Nat),j<=l.length/\i = .int .i64 j/\n<=16+16*j/\zkn wr w1.heap.size n (zgc (zwi m) (l.take j))/\Keeps w1.heap.size ((w1.alloc (.map #[] 0)).alloc (.cells #[.map (some w1.heap.size)] 189)) wr) (fun _ _ i _=>l.length - (intOf i).toNat)
 case atStart=>exact ⟨0,_,vad _,rfl,by have:=HIl.out;omega,HKm.out,HE.out⟩
 case round =>
  clear HKm HE;obtain ⟨j,n,hj,rfl,hn,hkm,hke⟩:=hrel;have HKm:=hid hkm;have HE:=hid hke;have hzr:=hke.size;simp at hzr;have nb:wr.heap[w1.heap.size+1]? = some (.cells #[.map (some w1.heap.size)] 189):=(hke.block _ (by simp) (by omega)).trans (by simpa using heap_newP (w1.alloc (.map #[] 0)) (.cells #[.map (some w1.heap.size)] 189));have HNb:=hid nb
  have k0:wr.cell? ⟨w1.heap.size+1,0,none⟩=some (.map (some w1.heap.size)):=by rw [veb nb];rfl
  have hnl:=zaa nb;have HBr:Hid (Below w.heap.size w wr):=Keeps.below (thenB HB1.out (bl2 _ _ _)) HE.out (by omega) (by simp;omega);clear hkm hke nb
  by_cases hlt:j<l.length
  . obtain ⟨b,off,aj,cj,rfl,hbl,x0,x1,hnm,hdj⟩:=(HFs.out.later HBr.out).fc j hlt
    obtain ⟨b',off',aj',cj',hal,hbl0,_,x1',_,hdj0⟩:=HFs.out.fc j hlt
    have hjj:aj'=aj:=by
     have e0:=vac hal
     injection e0 with e1 e2
     subst e1 e2;have:=(HBr.out.cell (p:=⟨b,off+j*2+1,none⟩) hbl0).trans x1';rw [this] at x1;have:=vac x1;injection this
    subst hjj;obtain ⟨HIj,HFj⟩:=zeu hdj;have hib:=zkf (zeu hdj0).1 (R:=w1.heap.size) (by omega);have h16j:=H16.out l[j] (vah _)
    have HSn:Hid (zhq (zgc (zwi m) (l.take j)) l[j].name ((j:Int)+1) l[j].items=zgc (zwi m) (l.take (j+1))):=by
     show _=zgc (zwi m) (l.take (j+1));rw [vag hlt,zke,vbu,vdl (by omega)]
    have hwr:IntKind.i64.wrap ((j:Int)+1)=(j:Int)+1:=by simp only [IntKind.wrap,IntKind.bits,IntKind.signed];simp;omega
    clear hal hbl0 x1' hdj hdj0;generalize l[j]=f at *;have HC3:=hid (zkb (zgc (zwi m) (l.take j)) w1.heap.size n f.name ((j:Int)+1) f.items aj' cj (wr.alloc (.cells #[.string f.name,.slice aj' f.items.length cj] 30)) (HKm.out.later (al1 _ _)) hnm (HIj.later (al1 _ _)) HFj (by omega) (by omega) hib);clear hnm HIj HFj hib;go_wp2_with fail;refine HC3.out.mono ?_;rintro e w3 ⟨rfl,hkm3,hke3⟩;rw [HSn.out] at hkm3;have HKm3:=hid hkm3;have HE3:=hid ((HE.out.alloc (.cells #[.string f.name,.slice aj' f.items.length cj] 30)).trans hke3);clear hkm3 hke3 HC3;go_wp2_with fail;go_roundw
    case rel=>exact ⟨j+1,n+f.items.length,by omega,by go_num,by omega,HKm3.out,HE3.out⟩
    case measure=>simp [intOf];omega
  . obtain rfl:j=l.length:=by omega
    have HKf:Hid (zk0 wr (.map (some w1.heap.size)) (zbo m l)):=by have:=HKm.out.known;rw [vav] at this;exact this
    have Q0:Hid (wr.heap[w.heap.size]? = some (.cells #[.string m.name,.slice a1 m.uses.length c1,.slice a2 m.decls.length c2,.slice a3 m.procs.length c3,.slice a4 m.main.length c4] 27)):=(HE.out.block _ (by simp;omega) (by omega)).trans (zad (zad P0.out));have Q1:Hid (wr.heap[w.heap.size+1]? = some (.cells #[.string ⟨#[]⟩,.slice none 0 0,.int .i64 0,.slice none 0 0,.slice none 0 0] 42)):=(HE.out.block _ (by simp;omega) (by omega)).trans (zad (zad P1.out));have HUs:=hid (fun W (hW:Below wr.heap.size wr W)=>((zek HM.out.uses).1.later (thenB HBr.out hW)));obtain ⟨x0,x1,x2,x3,x4,xf⟩:=zac Q0.out;have hl0:=zaa Q0.out;have hu3:=HPa.out.1;have HSz:=hid (zek HM.out.uses).2;have HBx:=hid (fun W (hW:Below wr.heap.size wr W)=>zrt ((hW.block _ hl0).trans Q0.out));clear HKm HE k0;go_wp2_with fail
    obtain ⟨wL,hwL⟩:∃ x,x=wr:=⟨_,rfl⟩
    subst hwL
    go_cut [11] (fun v wc=>∃ (U:Nat) (au:OA) (cu:Nat),v = .pointer (some ⟨U,0,none⟩)/\wL.heap.size<=U/\Hid (Below wL.heap.size wL wc)/\Hid (wc.heap[U]? = some (.cells #[.string m.name,.slice au m.uses.length cu,.int .i64 (zav m),.slice none 0 0,.slice none 0 0] 42))/\Hid (EAt wc (fun b=>wL.heap.size<=b/\b≠U) au m.uses.length (zan m.uses)))
    case first=>
     have hne1:w.heap.size≠wL.heap.size:=by omega
     have FF0:Hid (wL.cell? ⟨w.heap.size,0,none⟩=some (.string m.name)/\wL.cell? ⟨w.heap.size,1,none⟩=some (.slice a1 m.uses.length c1)):=⟨x0,x1⟩
     have FF:Hid (wL.drew.cell? ⟨w.heap.size,0,none⟩=some (.string m.name)/\wL.drew.cell? ⟨w.heap.size,1,none⟩=some (.slice a1 m.uses.length c1)):=⟨x0,x1⟩
     go_region_held_law (fun W=>W.cell? ⟨w.heap.size,0,none⟩=some (.string m.name)/\W.cell? ⟨w.heap.size,1,none⟩=some (.slice a1 m.uses.length c1)) (first | with_reducible exact FF.out | with_reducible exact zkg hfl FF.out _ | with_reducible exact zth hl0 FF0.out _ | with_reducible exact zkg hl0 FF0.out _ | with_reducible exact z0n hne1 FF.out _ _ _ _ _)
      (first | (refine ziw rfl _ _ rfl m.uses a1 c1 rfl rfl (HUs.out _ (by first | exact bdrew wL | exact zht wL _)) (by omega) ?_;intro vu wu hou hbu;have HEu:=hid (zyk hou HSz.out);obtain ⟨au,cu,rfl,_⟩:=zm9 hou;clear hou;(first | (refine And.elim ?_ (zti hbu);intro e0 hcs;obtain ⟨e1,e2,e3,e4,ef,hel⟩:=hcs;refine And.elim ?_ (HBx.out wu (thenB (zht wL _) hbu));intro f0 fr;obtain ⟨f1,f2,f3,f4,ff,hfl⟩:=fr;have HBu:=hid (thenB (zht wL _) hbu);have FF:=hid (And.intro f0 f1)) | (refine And.elim ?_ (HBx.out wu (thenB (bdrew wL) hbu));intro f0 fr;obtain ⟨f1,f2,f3,f4,ff,hfl⟩:=fr;have HBu:=hid (thenB (bdrew wL) hbu);have FF:=hid (And.intro f0 f1)))))
     . have HW:Hid (Below wL.heap.size wL (wu.alloc (.cells #[.string m.name,.slice au m.uses.length cu,.int .i64 (zav m),.slice none 0 0,.slice none 0 0] 42))):=thenB HBu.out (al1 _ _)
       have HU:Hid ((wu.alloc (.cells #[.string m.name,.slice au m.uses.length cu,.int .i64 (zav m),.slice none 0 0,.slice none 0 0] 42)).heap[wu.heap.size]? = some (.cells #[.string m.name,.slice au m.uses.length cu,.int .i64 (zav m),.slice none 0 0,.slice none 0 0] 42)):=heap_newP _ _;have HA:Hid (EAt (wu.alloc (.cells #[.string m.name,.slice au m.uses.length cu,.int .i64 (zav m),.slice none 0 0,.slice none 0 0] 42)) (fun b=>wL.heap.size<=b/\b≠wu.heap.size) au m.uses.length (zan m.uses)):=(HEu.out au cu rfl).moves ⟨by simp,fun b hb h=>⟨⟨h,by omega⟩,(al1 _ _).block b hb⟩⟩;have hU:wL.heap.size<=wu.heap.size:=HBu.out.size;go_wp2_with fail;go_meet;exact ⟨_,au,cu,rfl,hU,HW,HU,HA⟩
     . have HW:Hid (Below wL.heap.size wL (((((wu.setCell ⟨wL.heap.size,0,none⟩ (.string m.name)).setCell ⟨wL.heap.size,1,none⟩ (.slice au m.uses.length cu)).setCell ⟨wL.heap.size,2,none⟩ (.int .i64 (zav m))).setCell ⟨wL.heap.size,3,none⟩ (.slice none 0 0)).setCell ⟨wL.heap.size,4,none⟩ (.slice none 0 0))):=zcb HBu.out (vaa _) _ _ _ _ _
       have HU:Hid ((((((wu.setCell ⟨wL.heap.size,0,none⟩ (.string m.name)).setCell ⟨wL.heap.size,1,none⟩ (.slice au m.uses.length cu)).setCell ⟨wL.heap.size,2,none⟩ (.int .i64 (zav m))).setCell ⟨wL.heap.size,3,none⟩ (.slice none 0 0)).setCell ⟨wL.heap.size,4,none⟩ (.slice none 0 0)).heap[wL.heap.size]? = some (.cells #[.string m.name,.slice au m.uses.length cu,.int .i64 (zav m),.slice none 0 0,.slice none 0 0] 42)):=zaf (zaf (zaf (zaf (zaf ((hbu.block wL.heap.size (by show wL.heap.size<(wL.alloc _).heap.size;simp)).trans (heap_newP wL _)) _) _) _) _) _;have HA:Hid (EAt (((((wu.setCell ⟨wL.heap.size,0,none⟩ (.string m.name)).setCell ⟨wL.heap.size,1,none⟩ (.slice au m.uses.length cu)).setCell ⟨wL.heap.size,2,none⟩ (.int .i64 (zav m))).setCell ⟨wL.heap.size,3,none⟩ (.slice none 0 0)).setCell ⟨wL.heap.size,4,none⟩ (.slice none 0 0)) (fun b=>wL.heap.size<=b/\b≠wL.heap.size) au m.uses.length (zan m.uses)):=((HEu.out au cu rfl).moves ⟨vaa _,fun b hb h=>⟨(⟨by have:(wL.alloc _).heap.size<=b:=h;simp at this;omega,by have:(wL.alloc _).heap.size<=b:=h;simp at this;omega⟩:wL.heap.size<=b/\b≠wL.heap.size),rfl⟩⟩:EAt wu (fun b=>wL.heap.size<=b/\b≠wL.heap.size) au m.uses.length (zan m.uses)).moves ((zae.refl wu (fun b=>wL.heap.size<=b/\b≠wL.heap.size)).set5 (by intro k _ hk;exact hk.2) _ _ _ _ _)
       have hU:wL.heap.size<=wL.heap.size:=vaa _;go_wp2_with fail;go_meet;exact ⟨_,au,cu,rfl,hU,HW,HU,HA⟩
    case rest=>
     obtain ⟨U,au,cu,rfl,hU,HW,HU,HA⟩:=hcut;have hUl:=zaa HU.out;have T0:=hid ((HW.out.block _ hl0).trans Q0.out);have T1:=hid ((HW.out.block _ (zaa Q1.out)).trans Q1.out);have T2:=hid ((HW.out.block _ hnl).trans HNb.out);have hl1:=zaa Q1.out;clear x0 x1 x2 x3 x4 xf;generalize wc=W3 at *;obtain ⟨x0,x1,x2,x3,x4,xf⟩:=zac T0.out;have hlT0:=zaa T0.out;have hlT1:=zaa T1.out;have hlT2:=zaa T2.out;have hz3:=HW.out.size;go_wp2_with fail;clear x0 x1 x2 x3 x4 xf
     go_loopw [13,14,15,54] (fun _ _ _ i wt=>∃ (j:Nat) (acc:List Pt) (vp:Value),j<=m.procs.length/\i = .int .i64 j/\acc.length=j/\zb2 (zbo m l) (m.procs.take j) = .ok acc/\wt.heap[U]? = some (.cells #[.string m.name,.slice au m.uses.length cu,.int .i64 (zav m),vp,.slice none 0 0] 42)/\Row W3.heap.size 106 3 wt vp acc.length (ptsD acc)/\Keeps U W3 wt) (fun _ _ _ i _=>m.procs.length - (intOf i).toNat)
     case atStart=>exact ⟨0,[],.slice none 0 0,vad _,rfl,rfl,rfl,HU.out,Row.nil _ _ _ _,Keeps.refl _ _⟩
     case round=>
      clear HU;obtain ⟨j,acc,vp,hj,rfl,hacc,hpm,hub,hrow,hke⟩:=hrel;have HPm:=hid hpm;have HUb:=hid hub;have HRo:=hid hrow;have HKe:=hid hke;have hzt:=hke.size;have hUt:=zaa hub;have R0:=hid ((hke.block _ hlT0 (by omega)).trans T0.out);have R1:=hid ((hke.block _ hlT1 (by omega)).trans T1.out);have R2:=hid ((hke.block _ hlT2 (by omega)).trans T2.out);have HBL:Hid (Below wL.heap.size wL wr):=Keeps.below HW.out hke hU (by omega);have HBw:=hid (thenB HBr.out HBL.out);have HKt:=hid (HKf.out.later HBL.out);obtain ⟨x0,x1,x2,x3,x4,xf⟩:=zac R0.out
      have n0:wr.cell? ⟨w1.heap.size+1,0,none⟩=some (.map (some w1.heap.size)):=by rw [veb R2.out];rfl
      have hlR0:=zaa R0.out;have hlR1:=zaa R1.out;have hlR2:=zaa R2.out;clear hpm hub hrow hke
      by_cases hlt:j<m.procs.length
      . obtain ⟨b,off,q1,d1,q2,d2,q3,d3,rfl,hx⟩:=(HM.out.procs.later HBw.out).pr j hlt
        obtain ⟨hbl,g0,g1,g2,g3,g4,hq1,hq2,hq3,hnm⟩:=hx;obtain ⟨hpp,hpl,hpb⟩:=HPa.out.2.2.2.1 m.procs[j] (vah _);have HErr:=hid (fun c (he:zgu (zbo m l) m.procs[j] = .error c)=>ztg (ztf hlt HPm.out he));have HOk:=hid (fun y (he:zgu (zbo m l) m.procs[j] = .ok y)=>zqd hlt HPm.out he);generalize m.procs[j]=p at *;have HC4:=hid (zyj (zbo m l) w1.heap.size p q1 d1 q2 d2 q3 d3 (wr.alloc (.cells #[.string p.name,.bool p.pub,.slice q1 p.params.length d1,.slice q2 p.locals.length d2,.slice q3 p.body.length d3] 118)) (HKt.out.later (al1 _ _)) (hq1.later (al1 _ _)) (hq2.later (al1 _ _)) (hq3.later (al1 _ _)) hpp hpl hpb);clear hq1 hq2 hq3 hpp hpl hpb hnm x0 x1 x2 x3 x4 xf;go_wp2_with fail;refine HC4.out.mono ?_;rintro e w4 ⟨hend,hb4⟩;have HB4:=hid (thenB (al1 wr _) hb4);have hz4:=hb4.size;simp at hz4;clear hb4 HC4 n0 g0 g1 g2 g3 g4
        cases hr:zgu (zbo m l) p with
        | error c=>
          rw [hr] at hend;obtain ⟨px,py,pa,pk,pc,rfl,hne⟩:=hend;have HR:=hid (HErr.out c hr);have v1:=(HB4.out.block _ hlR1).trans R1.out;have hlr:=zaa v1;obtain ⟨r0,r1,r2,r3,r4,rf⟩:=zac v1;clear hr v1;go_wp2_with fail;refine bodyPost_ret (v:=.tuple #[.agg #[.string ⟨#[]⟩,.slice none 0 0,.int .i64 0,.slice none 0 0,.slice none 0 0],.int .i64 c]) (by simp [results,Tryz.results64,go_sem,r0,r1,r2,r3,r4,hlr]) rfl ⟨by rw [HR.out];exact ⟨rfl,hne⟩,?_⟩;exact (zcb (thenB HBw.out HB4.out) (by omega) _ _ _ _ _).alloc (by simp;omega) _
        | ok t=>
          rw [hr] at hend;obtain ⟨pa,pc,rfl,hea⟩:=hend;have HR:=hid (HOk.out t hr);have HUb4:=hid ((HB4.out.block _ hUt).trans HUb.out);have HRo4:Hid (Row W3.heap.size 106 3 (w4.alloc (.cells #[.int .i64 t.params,.int .i64 t.locals,.slice pa t.body.length pc] 106)) vp acc.length (ptsD acc)):=(HRo.out.later HB4.out).alloc _;have HE4:Hid (zap (w4.alloc (.cells #[.int .i64 t.params,.int .i64 t.locals,.slice pa t.body.length pc] 106)) (wr.heap.size+1<=·) t.ds [.int .i64 t.params,.int .i64 t.locals,.slice pa t.body.length pc]):=znb (hea.moves (((zae.refl w4 _).alloc _).trans ⟨vaa _,fun b _ h=>⟨by simp at h;exact h,rfl⟩⟩));have HLt:=hid (fun k hk=>(HRo.out.lt k hk).2);obtain ⟨o0,o1,o2,o3,o4,of⟩:=zac HUb4.out;have hUl4:=zaa HUb4.out;have HKe4:=hid (((HKe.out.later HB4.out)).alloc (.cells #[.int .i64 t.params,.int .i64 t.locals,.slice pa t.body.length pc] 106))
          clear hr hea
          go_wp2_with (at_builtin;refine zbm rfl (.tmp 69) (.tmp 71) 39 rfl W3.heap.size 106 _ 3 40 Tryz.underlying39 Tryz.infoPart rfl (by decide) (w4.alloc (.cells #[.int .i64 t.params,.int .i64 t.locals,.slice pa t.body.length pc] 106)) vp acc.length (ptsD acc) t.ds rfl HRo4.out #[.int .i64 t.params,.int .i64 t.locals,.slice pa t.body.length pc] _ (by simp) rfl rfl (wr.heap.size+1<=·) HE4.out ?_ (by omega) (by decide) (by simp;omega) ?_)
          . intro b _ hb
            have hb':wr.heap.size+1<=b:=hb;exact ⟨by omega,fun h=>by have:=HLt.out b h;omega⟩
          . intro g5 c5 w5 HO5 HB5 hz5
            have HKe5:=hid (HKe4.out.belowOf HB5);have HUb5:=hid ((HB5.block _ (by omega)).trans (zad HUb4.out));have HO5':=hid (HO5.set (p:=⟨U,3,none⟩) (by show U<W3.heap.size;omega) (.slice (some ⟨g5,0,none⟩) (j+1) c5));have HUb6:Hid ((w5.setCell ⟨U,3,none⟩ (.slice (some ⟨g5,0,none⟩) (j+1) c5)).heap[U]? = some (.cells #[.string m.name,.slice au m.uses.length cu,.int .i64 (zav m),.slice (some ⟨g5,0,none⟩) (j+1) c5,.slice none 0 0] 42)):=zaf HUb5.out _;have HKe6:=hid (HKe5.out.own 3 (.slice (some ⟨g5,0,none⟩) (j+1) c5));obtain ⟨s0,s1,s2,s3,s4,sf⟩:=zac HUb5.out;have hUl5:=zaa HUb5.out;clear HO5 HB5 HRo4 HE4 o0 o1 o2 o3 o4 of HKe5 HKe4;go_wp2_with fail;go_roundw
            case rel=>exact ⟨j+1,acc++[t],_,by omega,by go_num,by simp [hacc],HR.out,HUb6.out,by rw [zhs,vao,hacc];exact HO5'.out,HKe6.out⟩
            case measure=>simp [intOf];omega
      . obtain rfl:j=m.procs.length:=by omega
        have HPf:Hid (zb2 (zbo m l) m.procs = .ok acc):=by have:=HPm.out;rw [vav] at this;exact this
        have HC5:=hid (zi6 6 m.main HPa.out.2.2.2.2 (zbo m l) (fun _=>none) (.map (some w1.heap.size)) (.map none) Tt a4 c4 wr HKt.out (zte wr) (HM.out.main.later HBw.out));go_wp2_with fail;refine HC5.out.mono ?_;rintro e w4 ⟨hend,hb4⟩;have HB4:=hid hb4;have hz4:=hb4.size;have v1:=(hb4.block _ hlR1).trans R1.out;have hlr:=zaa v1;obtain ⟨r0,r1,r2,r3,r4,rf⟩:=zac v1;have HUb4:=hid ((hb4.block _ hUt).trans HUb.out);clear hb4 HC5 v1 n0 x0 x1 x2 x3 x4 xf
        cases hr:zdv (zbo m l) (fun _=>none) m.main with
        | error c=>
          rw [hr] at hend;obtain ⟨rfl,hne⟩:=hend;have HR:=hid (zwj HPf.out hr);clear hr;go_wp2_with fail;refine bodyPost_ret (v:=.tuple #[.agg #[.string ⟨#[]⟩,.slice none 0 0,.int .i64 0,.slice none 0 0,.slice none 0 0],.int .i64 c]) (by simp [results,Tryz.results64,go_sem,r0,r1,r2,r3,r4,hlr]) rfl ⟨by rw [HR.out];exact ⟨rfl,hne⟩,?_⟩;exact zcb (thenB HBw.out HB4.out) (by omega) _ _ _ _ _
        | ok bd=>
          rw [hr] at hend;obtain ⟨ab,cb,rfl,hea⟩:=hend;have HR:=hid (z0m HPf.out hr);obtain ⟨ap,cp,rfl,hep⟩:=HRo.out.slice;obtain ⟨o0,o1,o2,o3,o4,of⟩:=zac HUb4.out;have hUl4:=zaa HUb4.out
          have hUn:U≠w.heap.size+1:=by omega
          have HMv:Hid (∀ u v0 v1 v2 v3 v4,∀ A:Nat->Prop,(∀ b,A b->w.heap.size+2<=b/\b≠U)->zae w4 A (set5 (w4.setCell ⟨U,4,none⟩ u) (w.heap.size+1) v0 v1 v2 v3 v4) (w.heap.size<=·)):=fun u v0 v1 v2 v3 v4 A hA=>
           (((zae.refl w4 A).set (p:=⟨U,4,none⟩) (fun b _ hb=>(hA b hb).2) u).set5 (b:=w.heap.size+1) (fun b _ hb=>by have:=(hA b hb).1;omega) v0 v1 v2 v3 v4).trans ⟨vaa _,fun b _ h=>⟨by have:=(hA b h).1;show w.heap.size<=b;omega,rfl⟩⟩
          have HA4:Hid (EAt w4 (fun b=>wL.heap.size<=b/\b≠U) au m.uses.length (zan m.uses)):=(HA.out.moves ((zae.refl W3 _).keeps HKe.out (fun b _ h=>h.2))).later HB4.out;have HP4:Hid (EAt w4 (W3.heap.size<=·) ap acc.length (ptsD acc)):=hep.later HB4.out;have HM4:Hid (EAt w4 (wr.heap.size<=·) ab bd.length (zc2 bd)):=hea;have hzw:=HBr.out.size;clear hr hea hep HRo;go_wp2_with fail;refine bodyPost_ret (v:=.tuple #[.agg #[.string m.name,.slice au m.uses.length cu,.int .i64 (zav m),.slice ap acc.length cp,.slice ab bd.length cb],.int .i64 0]) (by simp [results,Tryz.results64,go_sem,r0,r1,r2,r3,r4,hlr,hacc]) rfl ⟨?_,?_⟩
          . rw [HR.out]
            exact ⟨au,cu,ap,cp,ab,cb,rfl,HA4.out.moves (HMv.out _ _ _ _ _ _ _ (fun b h=>⟨by have:=h.1;omega,h.2⟩)),HP4.out.moves (HMv.out _ _ _ _ _ _ _ (fun b h=>by have:W3.heap.size<=b:=h;exact ⟨by omega,by omega⟩)),HM4.out.moves (HMv.out _ _ _ _ _ _ _ (fun b h=>by have:wr.heap.size<=b:=h;exact ⟨by omega,by omega⟩))⟩
          . exact zcb ((thenB HBw.out HB4.out).setCell (p:=⟨U,4,none⟩) (by show w.heap.size<=U;omega) _) (by omega) _ _ _ _ _
def zah (p:Fc × ByteArray):Bool:=Fx.zey p.1 == 0&&decide (p.1.name=p.2)
def resolveM (m:Mo) (l:List Fc):Except Int Un:=
 if chkM m≠0 then .error (chkM m) else if l.length≠m.uses.length then .error 8 else if (l.zip m.uses).all zah then zf8 m l else .error 1
theorem zru {m:Mo} {l:List Fc} (hl:l.length=m.uses.length) (j:Nat) (h:j<l.length):((l.zip m.uses).take (j+1)).all zah=(((l.zip m.uses).take j).all zah&&zah (l[j],m.uses[j]'(by omega))):=by
 have hz:j<(l.zip m.uses).length:=by rw [vdd];omega
 rw [vag hz,vaw,vdw];simp
theorem zwk {m:Mo} {l:List Fc} (hl:l.length=m.uses.length) (j:Nat) (h:j<l.length) (hf:zah (l[j],m.uses[j]'(by omega))=false):(l.zip m.uses).all zah=false:=by
 have hz:j<(l.zip m.uses).length:=by rw [vdd];omega
 rw [vde];exact ⟨(l.zip m.uses)[j],vah _,by rw [vdw];simp [hf]⟩
theorem zwl {m:Mo} {l:List Fc} (hl:l.length=m.uses.length) (h:(l.zip m.uses).all zah=true):∀ f ∈ l,f.items.length<=16:=by
 intro f hf;obtain ⟨j,hj,rfl⟩:=vay hf
 have hz:j<(l.zip m.uses).length:=by rw [vdd];omega
 have:=vat.1 h _ (vah hz);rw [vdw] at this;unfold zah at this;simp only [van,beq_iff_eq] at this;have hc:=this.1;unfold Fx.zey at hc
 by_cases h16:16<l[j].items.length
 . rw [if_pos h16] at hc;cases hc
 . omega
section
variable {P:Program} {ops:Array Oper} {Q:Exit->Act->World->Prop} {md:Region.Mode} {S:World->Prop} {o1:Op} {o2:TypeId} {o3:String} {o4:Array Edge} {o5:Option (Nat × Bool)} {v:Value} {fuel:Nat} {listed:Array Bool} {a:Act} {w:World}
theorem tq (i d:Nat) (hS:S w) (h:wpAnyH P md ops Q S fuel (listed.setIfInBounds i true) (a.put (some d) v) w) (hi:ops[i]? = some (Oper.mk (some d) o1 o2 o3 o4 o5):=by exact rfl)
 (hg:Region.wanted (Oper.mk (some d) o1 o2 o3 o4 o5) (yielded ops a.tmps)=true:=by rfl) (hy:∀ w,S w->(execOp a.eval (Oper.mk (some d) o1 o2 o3 o4 o5)).run P w = .ok (.value v) w:=by (intro w hSw;(try dsimp only at hSw);go_simp;(try with_reducible rfl)))
 (hb:(Region.noSelect ops&&(Region.free md ops listed i&&(Region.ready md ops listed).contains i))=true:=by kernel_rfl)
 (hQ:∀ c a w,Q (.panic c) (a.put (some d) v) w->Q (.panic c) a w:=by exact fun _ _ _ h=>h):wpAnyH P md ops Q S (fuel+1) listed a w:=by
 simp only [van] at hb;exact wpAnyH_take hi hb.1 hb.2.1 hb.2.2 hQ (Or.inl ⟨hg,hy⟩) hS h
theorem tu (i d:Nat) (hS:S w) (h:wpAnyH P md ops Q S fuel (listed.setIfInBounds i true) (a.put (some d) undef) w) (hi:ops[i]? = some (Oper.mk (some d) o1 o2 o3 o4 o5):=by exact rfl)
 (hg:Region.wanted (Oper.mk (some d) o1 o2 o3 o4 o5) (yielded ops a.tmps)=false:=by rfl)
 (hb:(Region.noSelect ops&&(Region.free md ops listed i&&(Region.ready md ops listed).contains i))=true:=by kernel_rfl)
 (hQ:∀ c a w,Q (.panic c) (a.put (some d) undef) w->Q (.panic c) a w:=by exact fun _ _ _ h=>h):wpAnyH P md ops Q S (fuel+1) listed a w:=by
 simp only [van] at hb;exact wpAnyH_take hi hb.1 hb.2.1 hb.2.2 hQ (Or.inr ⟨hg,rfl⟩) hS h
end
theorem zev (a b:ByteArray):(a.toList == b.toList)=decide (a=b):=by
 rw [vbt];simp only [beq_iff_eq,decide_eq_true_eq]
 constructor
 . intro h
   rw [vas,vas] at h;exact zon h
 . rintro rfl;rfl
theorem zkh (f:Fc) (h:Fx.zey f≠0):Fx.zey f=1\/Fx.zey f=2:=by
 unfold Fx.zey at h ⊢;split
 . exact Or.inr rfl
 . rename_i h1
   rw [if_neg h1] at h;split
   . rename_i h2;rw [if_pos h2] at h;exact absurd rfl h
   . exact Or.inl rfl
theorem fits_cells {w W:World} {x0 x1 v1 z:Value} {t:TypeId} {b bu o:Nat} (hW:Below (w.alloc (.cells #[x0,x1] t)).heap.size (w.alloc (.cells #[x0,x1] t)) W) (h1:w.cell? ⟨b,1,none⟩=some v1) (hb:b<w.heap.size) (h2:w.cell? ⟨bu,o,none⟩=some z) (hbu:bu<w.heap.size) :
 W.cell? ⟨w.heap.size,0,none⟩=some x0/\W.cell? ⟨w.heap.size,1,none⟩=some x1/\W.cell? ⟨b,1,none⟩=some v1/\W.cell? ⟨bu,o,none⟩=some z:=by
 obtain ⟨k0,k1,_⟩:=zbd ((hW.block w.heap.size (by simp)).trans (heap_newP w _));exact ⟨k0,k1,(hW.cell (p:=⟨b,1,none⟩) (by show b<_;simp;omega)).trans (((al1 w _).cell (p:=⟨b,1,none⟩) hb).trans h1),(hW.cell (p:=⟨bu,o,none⟩) (by show bu<_;simp;omega)).trans (((al1 w _).cell (p:=⟨bu,o,none⟩) hbu).trans h2)⟩
theorem zfa (m:Mo) (v:Value) (a1:OA) (c1:Nat) (a2:OA) (c2:Nat) (a3:OA) (c3:Nat) (a4:OA) (c4:Nat) (l:List Fc) (al:OA) (cl:Nat) (w:World) (hM:MoAt w Tt m v a1 c1 a2 c2 a3 c3 a4 c4) (hF:DAt w Tt al l.length (ztt l)) :
 Calls Tryz.prog 21 #[v,.slice al l.length cl] w fun e w'=>zqe w.heap.size (resolveM m l) e w'/\Below w.heap.size w w':=by
 obtain rfl:=hM.val;have HM:=hid hM;have HFs:=hid hF;have hbd:=hF.bound;have hbu:=hM.uses.bound;have HC:=hid (zfp m _ a1 c1 a2 c2 a3 c3 a4 c4 ((w.alloc (.cells #[.string m.name,.slice a1 m.uses.length c1,.slice a2 m.decls.length c2,.slice a3 m.procs.length c3,.slice a4 m.main.length c4] 27)).alloc (.cells #[.string ⟨#[]⟩,.slice none 0 0,.int .i64 0,.slice none 0 0,.slice none 0 0] 42)) (hM.later (bl2 _ _ _)));clear hM hF
 obtain ⟨r,hr⟩:∃ r,r=resolveM m l:=⟨_,rfl⟩
 rw [← hr];have HR0:=hid hr;clear hr;go_enter Tryz.func21,Tryz.ntmps21;go_wp2_with fail;refine HC.out.mono ?_;rintro e w1 ⟨rfl,hb1⟩;have HB1:=hid (thenB (bl2 w _ _) hb1);have hz1:=hb1.size;simp at hz1;have P0:=hid ((hb1.block w.heap.size (by simp;omega)).trans (zad (heap_newP w _)));have P1:Hid (w1.heap[w.heap.size+1]? = some (.cells #[.string ⟨#[]⟩,.slice none 0 0,.int .i64 0,.slice none 0 0,.slice none 0 0] 42)):=(hb1.block (w.heap.size+1) (by simp)).trans (by simpa using heap_newP (w.alloc _) _);obtain ⟨x0,x1,x2,x3,x4,xf⟩:=zac P0.out;obtain ⟨r0,r1,r2,r3,r4,rf⟩:=zac P1.out;have hlx:=zaa P0.out;have hlr:=zaa P1.out;clear hb1 HC
 by_cases hc:chkM m=0
 case neg=>
  have HR:Hid (r = .error (chkM m)):=HR0.out.trans (if_pos hc);go_wp2_with fail;refine bodyPost_ret (v:=.tuple #[.agg #[.string ⟨#[]⟩,.slice none 0 0,.int .i64 0,.slice none 0 0,.slice none 0 0],.int .i64 (chkM m)]) (by simp [results,Tryz.results21,go_sem,r0,r1,r2,r3,r4,hlr]) rfl ⟨by rw [HR.out];exact ⟨rfl,hc⟩,?_⟩;exact zcb HB1.out (by omega) _ _ _ _ _
 have HR1:Hid (r=if l.length≠m.uses.length then .error 8 else if (l.zip m.uses).all zah then zf8 m l else .error 1):=HR0.out.trans (if_neg (by simp [hc]));have HZ:=hid hc;rw [hc];clear hc HR0
 by_cases hlen:l.length=m.uses.length
 case neg=>
  have HR:Hid (r = .error 8):=HR1.out.trans (if_pos hlen)
  have hne1:¬ ((l.length:Int)=m.uses.length):=by omega
  go_wp2_with fail;refine bodyPost_ret (v:=.tuple #[.agg #[.string ⟨#[]⟩,.slice none 0 0,.int .i64 0,.slice none 0 0,.slice none 0 0],.int .i64 8]) (by simp [results,Tryz.results21,go_sem,r0,r1,r2,r3,r4,hlr]) rfl ⟨by rw [HR.out];exact ⟨rfl,by decide⟩,?_⟩;exact zcb HB1.out (by omega) _ _ _ _ _
 have HR2:Hid (r=if (l.zip m.uses).all zah then zf8 m l else .error 1):=HR1.out.trans (if_neg (by simp [hlen]));have HLn:=hid hlen;have hu3:=(zc5 (zfq HZ.out)).1
 have hlI:(l.length:Int)=(m.uses.length:Int):=by omega
 clear HR1 hlen;go_wp2_with fail;clear hlI
 go_loopw [7,8,24] (fun _ _ i wr=>∃ j:Nat,j<=l.length/\i = .int .i64 j/\((l.zip m.uses).take j).all zah=true/\Below w1.heap.size w1 wr) (fun _ _ i _=>l.length - (intOf i).toNat)
 case atStart=>exact ⟨0,vad _,rfl,rfl,Below.refl _ _⟩
 case round=>
  obtain ⟨j,hj,rfl,hall,hbr⟩:=hrel;have HAl:=hid hall;have HB:=hid hbr;have hzr:=hbr.size;have HBw:=hid (thenB HB1.out hbr);have R0:=hid ((hbr.block _ hlx).trans P0.out);have R1:=hid ((hbr.block _ hlr).trans P1.out);clear hall hbr x0 x1 x2 x3 x4 xf r0 r1 r2 r3 r4 rf;obtain ⟨x0,x1,x2,x3,x4,xf⟩:=zac R0.out;obtain ⟨r0,r1,r2,r3,r4,rf⟩:=zac R1.out;have hlx':=zaa R0.out;have hlr':=zaa R1.out
  by_cases hlt:j<l.length
  . have hju:j<m.uses.length:=by have:=HLn.out;omega
    obtain ⟨b,off,aj,cj,rfl,hbl,y0,y1,hnm,hdj⟩:=(HFs.out.later HBw.out).fc j hlt;obtain ⟨bu,ou,rfl,hblu,z0,hzm⟩:=(HM.out.uses.later HBw.out).str j hju;obtain ⟨HIj,HFj⟩:=zeu hdj;have hbj:=hdj.bound;have HSn:=hid (zru HLn.out j hlt);have HNo:=hid (zwk HLn.out j hlt)
    have hji:(j:Int)<m.uses.length:=by omega
    generalize l[j]=f at *;generalize m.uses[j]'hju=u at *;have HCf:=hid (fun W (hW:Below wr.heap.size wr W)=>Fx.zgd f aj cj W (HIj.later hW) (by omega) hnm HFj);have HS:=hid (fun W (hW:Below (wr.alloc (.cells #[.string f.name,.slice aj f.items.length cj] 30)).heap.size (wr.alloc (.cells #[.string f.name,.slice aj f.items.length cj] 30)) W)=>(fits_cells hW x1 hlx' z0 hblu:W.cell? ⟨wr.heap.size,0,none⟩=some (.string f.name)/\W.cell? ⟨wr.heap.size,1,none⟩=some (.slice aj f.items.length cj)/\W.cell? ⟨w.heap.size,1,none⟩=some (.slice (some ⟨bu,ou,none⟩) m.uses.length c1)/\W.cell? ⟨bu,ou+j,none⟩=some (.string u)));have FF:=hid (HS.out _ (bdrew _));clear hdj HIj HFj
    by_cases hcf:Fx.zey f=0
    . cases hsu:decide (f.name=u) with
      | true=>
        have HFf:Hid (zah (f,u)=true):=by show zah (f,u)=true;unfold zah;simp only [hcf,hsu];rfl
        have HSt:Hid (((l.zip m.uses).take (j+1)).all zah=true):=HSn.out.trans (by rw [HAl.out,HFf.out];rfl);rw [hcf] at HCf;have hst:(f.name.toList == u.toList)=true:=(zev _ _).trans hsu;clear HSn HNo hcf;go_wp2_with fail
        go_region_held (fun W=>W.cell? ⟨wr.heap.size,0,none⟩=some (.string f.name)/\W.cell? ⟨wr.heap.size,1,none⟩=some (.slice aj f.items.length cj)/\W.cell? ⟨w.heap.size,1,none⟩=some (.slice (some ⟨bu,ou,none⟩) m.uses.length c1)/\W.cell? ⟨bu,ou+j,none⟩=some (.string u)) (exact FF.out)
         (first | (go_at_call 19;refine (HCf.out _ (zht wr _)).mono ?_;rintro e w3 ⟨rfl,hb3⟩;have HB3:=hid (thenB (bdrew (wr.alloc (.cells #[.string f.name,.slice aj f.items.length cj] 30))) hb3);have FF:=hid (HS.out _ HB3.out);clear hb3))
        have HBf:=hid (thenB (thenB HBw.out (al1 wr (.cells #[.string f.name,.slice aj f.items.length cj] 30))) HB3.out);have hz3:=HB3.out.size;simp at hz3;have v1:=(HB3.out.block _ (by simp;omega)).trans (zad (o:=(.cells #[.string f.name,.slice aj f.items.length cj] 30)) R1.out);clear r0 r1 r2 r3 r4 rf;obtain ⟨r0,r1,r2,r3,r4,rf⟩:=zac v1;have hlr3:=zaa v1;clear v1;go_wp2_with fail;go_roundw
        case rel=>exact ⟨j+1,by omega,by go_num,HSt.out,thenB (thenB HB.out (al1 wr _)) HB3.out⟩
        case measure=>simp [intOf];omega
      | false=>
        have HFf:Hid (zah (f,u)=false):=by show zah (f,u)=false;unfold zah;simp only [hsu,Bool.and_false]
        rw [hcf] at HCf;have hst:(f.name.toList == u.toList)=false:=(zev _ _).trans hsu;clear HSn hcf;have HR:Hid (r = .error 1):=HR2.out.trans (if_neg (by rw [HNo.out HFf.out];decide));go_wp2_with fail
        go_region_held (fun W=>W.cell? ⟨wr.heap.size,0,none⟩=some (.string f.name)/\W.cell? ⟨wr.heap.size,1,none⟩=some (.slice aj f.items.length cj)/\W.cell? ⟨w.heap.size,1,none⟩=some (.slice (some ⟨bu,ou,none⟩) m.uses.length c1)/\W.cell? ⟨bu,ou+j,none⟩=some (.string u)) (exact FF.out)
         (first | (go_at_call 19;refine (HCf.out _ (zht wr _)).mono ?_;rintro e w3 ⟨rfl,hb3⟩;have HB3:=hid (thenB (bdrew (wr.alloc (.cells #[.string f.name,.slice aj f.items.length cj] 30))) hb3);have FF:=hid (HS.out _ HB3.out);clear hb3))
        have HBf:=hid (thenB (thenB HBw.out (al1 wr (.cells #[.string f.name,.slice aj f.items.length cj] 30))) HB3.out);have hz3:=HB3.out.size;simp at hz3;have v1:=(HB3.out.block _ (by simp;omega)).trans (zad (o:=(.cells #[.string f.name,.slice aj f.items.length cj] 30)) R1.out);clear r0 r1 r2 r3 r4 rf;obtain ⟨r0,r1,r2,r3,r4,rf⟩:=zac v1;have hlr3:=zaa v1;clear v1;go_wp2_with fail;refine bodyPost_ret (v:=.tuple #[.agg #[.string ⟨#[]⟩,.slice none 0 0,.int .i64 0,.slice none 0 0,.slice none 0 0],.int .i64 1]) (by simp [results,Tryz.results21,go_sem,r0,r1,r2,r3,r4,hlr3]) rfl ⟨by rw [HR.out];exact ⟨rfl,by decide⟩,?_⟩;exact zcb HBf.out (by omega) _ _ _ _ _
    . have HFf:Hid (zah (f,u)=false):=by show zah (f,u)=false;unfold zah;simp only [beq_eq_false_iff_ne.2 hcf,vcz]
      clear HSn
      rcases zkh f hcf with hc1 | hc2
      . rw [hc1] at HCf
        clear hcf hc1;have HR:Hid (r = .error 1):=HR2.out.trans (if_neg (by rw [HNo.out HFf.out];decide));go_wp2_with fail;refine wp_region_held_drew (S:=(fun W=>W.cell? ⟨wr.heap.size,0,none⟩=some (.string f.name)/\W.cell? ⟨wr.heap.size,1,none⟩=some (.slice aj f.items.length cj)/\W.cell? ⟨w.heap.size,1,none⟩=some (.slice (some ⟨bu,ou,none⟩) m.uses.length c1)/\W.cell? ⟨bu,ou+j,none⟩=some (.string u))) (by kernel_rfl) FF.out (fun hHeld=>?_);refine tq 0 29 hHeld ?_
        (try simp only [Act.put,vab,vae,vaf])
        refine wpAnyH_ready (rs:=[1]) (by kernel_rfl) (by simp) ?_;refine AllReadyH.cons rfl (fun K hK=>?_) AllReadyH.nil;go_simp
        go_wp2_with (go_at_call 19;refine (HCf.out _ (zht wr _)).mono ?_;rintro e w3 ⟨rfl,hb3⟩)
        have HB3:=hid (thenB (bdrew (wr.alloc (.cells #[.string f.name,.slice aj f.items.length cj] 30))) hb3);clear hb3;refine hK.out _ _ (HS.out _ HB3.out) (fun hHeld=>?_);clear hK K;refine tq 2 31 hHeld ?_
        (try simp only [Act.put,vab,vae,vaf])
        refine tq 3 32 hHeld ?_
        (try simp only [Act.put,vab,vae,vaf])
        refine tu 4 33 hHeld ?_
        (try simp only [Act.put,vab,vae,vaf])
        refine tu 5 34 hHeld ?_
        (try simp only [Act.put,vab,vae,vaf])
        refine tu 6 35 hHeld ?_
        (try simp only [Act.put,vab,vae,vaf])
        refine tu 7 36 hHeld ?_
        (try simp only [Act.put,vab,vae,vaf])
        refine tu 8 37 hHeld ?_
        (try simp only [Act.put,vab,vae,vaf])
        refine tu 9 38 hHeld ?_
        (try simp only [Act.put,vab,vae,vaf])
        refine tu 10 39 hHeld ?_
        (try simp only [Act.put,vab,vae,vaf])
        refine tu 11 40 hHeld ?_
        (try simp only [Act.put,vab,vae,vaf])
        refine tq 12 41 hHeld ?_
        (try simp only [Act.put,vab,vae,vaf])
        refine wpAnyH_done (by kernel_rfl) ?_ _;have HBf:=hid (thenB (thenB HBw.out (al1 wr (.cells #[.string f.name,.slice aj f.items.length cj] 30))) HB3.out);have hz3:=HB3.out.size;simp at hz3;have v1:=(HB3.out.block _ (by simp;omega)).trans (zad (o:=(.cells #[.string f.name,.slice aj f.items.length cj] 30)) R1.out);clear r0 r1 r2 r3 r4 rf;obtain ⟨r0,r1,r2,r3,r4,rf⟩:=zac v1;have hlr3:=zaa v1;clear v1;go_wp2_with fail;refine bodyPost_ret (v:=.tuple #[.agg #[.string ⟨#[]⟩,.slice none 0 0,.int .i64 0,.slice none 0 0,.slice none 0 0],.int .i64 1]) (by simp [results,Tryz.results21,go_sem,r0,r1,r2,r3,r4,hlr3]) rfl ⟨by rw [HR.out];exact ⟨rfl,by decide⟩,?_⟩;exact zcb HBf.out (by omega) _ _ _ _ _
      . rw [hc2] at HCf
        clear hcf hc2;have HR:Hid (r = .error 1):=HR2.out.trans (if_neg (by rw [HNo.out HFf.out];decide));go_wp2_with fail;refine wp_region_held_drew (S:=(fun W=>W.cell? ⟨wr.heap.size,0,none⟩=some (.string f.name)/\W.cell? ⟨wr.heap.size,1,none⟩=some (.slice aj f.items.length cj)/\W.cell? ⟨w.heap.size,1,none⟩=some (.slice (some ⟨bu,ou,none⟩) m.uses.length c1)/\W.cell? ⟨bu,ou+j,none⟩=some (.string u))) (by kernel_rfl) FF.out (fun hHeld=>?_);refine tq 0 29 hHeld ?_
        (try simp only [Act.put,vab,vae,vaf])
        refine wpAnyH_ready (rs:=[1]) (by kernel_rfl) (by simp) ?_;refine AllReadyH.cons rfl (fun K hK=>?_) AllReadyH.nil;go_simp
        go_wp2_with (go_at_call 19;refine (HCf.out _ (zht wr _)).mono ?_;rintro e w3 ⟨rfl,hb3⟩)
        have HB3:=hid (thenB (bdrew (wr.alloc (.cells #[.string f.name,.slice aj f.items.length cj] 30))) hb3);clear hb3;refine hK.out _ _ (HS.out _ HB3.out) (fun hHeld=>?_);clear hK K;refine tq 2 31 hHeld ?_
        (try simp only [Act.put,vab,vae,vaf])
        refine tq 3 32 hHeld ?_
        (try simp only [Act.put,vab,vae,vaf])
        refine tu 4 33 hHeld ?_
        (try simp only [Act.put,vab,vae,vaf])
        refine tu 5 34 hHeld ?_
        (try simp only [Act.put,vab,vae,vaf])
        refine tu 6 35 hHeld ?_
        (try simp only [Act.put,vab,vae,vaf])
        refine tu 7 36 hHeld ?_
        (try simp only [Act.put,vab,vae,vaf])
        refine tu 8 37 hHeld ?_
        (try simp only [Act.put,vab,vae,vaf])
        refine tu 9 38 hHeld ?_
        (try simp only [Act.put,vab,vae,vaf])
        refine tu 10 39 hHeld ?_
        (try simp only [Act.put,vab,vae,vaf])
        refine tu 11 40 hHeld ?_
        (try simp only [Act.put,vab,vae,vaf])
        refine tq 12 41 hHeld ?_
        (try simp only [Act.put,vab,vae,vaf])
        refine wpAnyH_done (by kernel_rfl) ?_ _;have HBf:=hid (thenB (thenB HBw.out (al1 wr (.cells #[.string f.name,.slice aj f.items.length cj] 30))) HB3.out);have hz3:=HB3.out.size;simp at hz3;have v1:=(HB3.out.block _ (by simp;omega)).trans (zad (o:=(.cells #[.string f.name,.slice aj f.items.length cj] 30)) R1.out);clear r0 r1 r2 r3 r4 rf;obtain ⟨r0,r1,r2,r3,r4,rf⟩:=zac v1;have hlr3:=zaa v1;clear v1;go_wp2_with fail;refine bodyPost_ret (v:=.tuple #[.agg #[.string ⟨#[]⟩,.slice none 0 0,.int .i64 0,.slice none 0 0,.slice none 0 0],.int .i64 1]) (by simp [results,Tryz.results21,go_sem,r0,r1,r2,r3,r4,hlr3]) rfl ⟨by rw [HR.out];exact ⟨rfl,by decide⟩,?_⟩;exact zcb HBf.out (by omega) _ _ _ _ _
  . obtain rfl:j=l.length:=by omega
    have hnl:¬ (l.length<m.uses.length):=by have:=HLn.out;omega
    have HAf:Hid ((l.zip m.uses).all zah=true):=by have:=HAl.out;rw [vaq (by rw [vdd];omega)] at this;exact this
    have HR:Hid (r=zf8 m l):=HR2.out.trans (if_pos HAf.out);have HC5:=hid (zyl m _ a1 c1 a2 c2 a3 c3 a4 c4 l al cl wr (HM.out.later HBw.out) (zfq HZ.out) (HFs.out.later HBw.out) (by have:=HLn.out;omega) (zwl HLn.out HAf.out));go_wp2_with fail;refine HC5.out.mono ?_;rintro e w5 ⟨hend,hb5⟩;have HB5:=hid (thenB HBw.out hb5);have hz5:=hb5.size;have v1:=(hb5.block _ hlr').trans R1.out;clear r0 r1 r2 r3 r4 rf;obtain ⟨r0,r1,r2,r3,r4,rf⟩:=zac v1;have hlr5:=zaa v1;clear hb5 v1 HC5
    cases hq:zf8 m l with
    | error c=>
      rw [hq] at hend;obtain ⟨rfl,hne⟩:=hend;have HRe:Hid (r = .error c):=HR.out.trans hq;clear hq;go_wp2_with fail;refine bodyPost_ret (v:=.tuple #[.agg #[.string ⟨#[]⟩,.slice none 0 0,.int .i64 0,.slice none 0 0,.slice none 0 0],.int .i64 c]) (by simp [results,Tryz.results21,go_sem,r0,r1,r2,r3,r4,hlr5]) rfl ⟨by rw [HRe.out];exact ⟨rfl,hne⟩,?_⟩;exact zcb HB5.out (by omega) _ _ _ _ _
    | ok q=>
      rw [hq] at hend;obtain ⟨g1,k1,g2,k2,g3,k3,rfl,he1,he2,he3⟩:=hend;have HRe:Hid (r = .ok q):=HR.out.trans hq
      have HMv:Hid (∀ v0 v1 v2 v3 v4,zae w5 (wr.heap.size<=·) (set5 w5 (w.heap.size+1) v0 v1 v2 v3 v4) (w.heap.size<=·)):=fun v0 v1 v2 v3 v4=>
       ((zae.refl w5 (wr.heap.size<=·)).set5 (b:=w.heap.size+1) (fun b _ hb=>by have:wr.heap.size<=b:=hb;omega) v0 v1 v2 v3 v4).trans ⟨vaa _,fun b _ h=>⟨by have:wr.heap.size<=b:=h;show w.heap.size<=b;omega,rfl⟩⟩
      have HE1:=hid he1;have HE2:=hid he2;have HE3:=hid he3;clear hq he1 he2 he3;go_wp2_with fail;refine bodyPost_ret (v:=.tuple #[.agg #[.string q.name,.slice g1 q.uses.length k1,.int .i64 q.data,.slice g2 q.parts.length k2,.slice g3 q.main.length k3],.int .i64 0]) (by simp [results,Tryz.results21,go_sem,r0,r1,r2,r3,r4,hlr5]) rfl ⟨?_,?_⟩
      . rw [HRe.out]
        exact ⟨g1,k1,g2,k2,g3,k3,rfl,HE1.out.moves (HMv.out _ _ _ _ _),HE2.out.moves (HMv.out _ _ _ _ _),HE3.out.moves (HMv.out _ _ _ _ _)⟩
      . exact zcb HB5.out (by omega) _ _ _ _ _
end Go.Proofs.YtndkhgakfodldaaGreatDoor

namespace Go.Proofs.YtndkhgakfodldaaGreatDoor
set_option linter.unusedSimpArgs false
set_option linter.unusedVariables false
structure Sv where
 uses:List ByteArray
 faces:List Fc
 own:List It
 names:List ByteArray
def zbf (e E:Int):Int:=if E=0 then e else E
theorem zea {e E:Int} (h:E≠0):zbf e E=E:=if_neg h
theorem zl7 (e:Int):zbf e 0=e:=if_pos rfl
def zdj (l:List It) (name:ByteArray):Option It:=l.find? fun i=>decide (i.name=name)
def zbz (mod name:ByteArray):Nat->List ByteArray->List Fc->Option Mg
 | k,u :: us,f :: fs=>if u=mod then (match zdj f.items name with
  | some i=>some (zko ((k:Int)+1) i)
  | none=>zbz mod name (k+1) us fs) else zbz mod name (k+1) us fs
 | _,_,_=>none
def zew (v:Sv) (mod name:ByteArray):Option Mg:=
 if mod.size=0 then (match v.names.findIdx? (fun x=>decide (x=name)) with
  | some i=>some ⟨0,0, -1,i⟩
  | none=>(zdj v.own name).map (zko 0))
 else zbz mod name 0 v.uses v.faces
def ndR (o:Option Mg) (x:Ex) (E:Int):Al × Int:=match o with
 | none=>(⟨x.op,x.n,0,0,0⟩,zbf 5 E)
 | some g=>if g.m = -1 then (⟨16,x.n,0,g.at_,0⟩,if x.op=3 then E else zbf 7 E)
   else if x.op=3/\g.kind=1 then (⟨1,g.n,0,0,0⟩,E)
   else if x.op=3/\g.kind=2 then (⟨x.op,x.n,g.m,g.at_,0⟩,E)
   else if x.op=4/\g.kind=3 then (⟨x.op,g.n,g.m,g.at_,0⟩,E)
   else if x.op=5/\g.kind=4 then (⟨x.op,x.n,g.m,g.at_,0⟩,if g.n=x.args.length then E else zbf 8 E)
   else (⟨x.op,x.n,0,0,0⟩,zbf 7 E)
def zww (op:Int):Bool:=decide (3<=op/\op<=5)
def ndT (v:Sv) (x:Ex) (E:Int):Al × Int:=if zww x.op=true then ndR (zew v x.mod x.name) x E else (⟨x.op,x.n,0,0,0⟩,E)
mutual
def exT (v:Sv):Ex->Int->Nd × Int
 | .mk op n mod name args,E=>
   (.mk (ndT v (.mk op n mod name args) E).1.op (ndT v (.mk op n mod name args) E).1.n (ndT v (.mk op n mod name args) E).1.m (ndT v (.mk op n mod name args) E).1.at_ (exsT v args (ndT v (.mk op n mod name args) E).2).1,(exsT v args (ndT v (.mk op n mod name args) E).2).2)
def exsT (v:Sv):List Ex->Int->List Nd × Int
 | [],E=>([],E)
 | x :: r,E=>((exT v x E).1 :: (exsT v r (exT v x E).2).1,(exsT v r (exT v x E).2).2)
end
theorem zrv (v:Sv) (x:Ex) (E:Int):exT v x E=(.mk (ndT v x E).1.op (ndT v x E).1.n (ndT v x E).1.m (ndT v x E).1.at_ (exsT v x.args (ndT v x E).2).1,(exsT v x.args (ndT v x E).2).2):=by
 obtain ⟨op,n,mod,name,args⟩:=x;rw [exT]
 rfl
def acR (o:Option Mg) (x:St) (E:Int):Al × Int:=match o with
 | none=>(⟨x.op,0,0,0,0⟩,zbf 5 E)
 | some g=>if x.op=1/\(g.m = -1\/g.kind=2) then (⟨x.op,0,g.m,g.at_,0⟩,E)
   else if g.m = -1 then (⟨x.op,0,0,0,0⟩,zbf 7 E)
   else if x.op=2/\g.kind=3 then (⟨x.op,g.n,g.m,g.at_,0⟩,E)
   else if x.op=3/\g.kind=4 then (⟨x.op,0,g.m,g.at_,0⟩,if g.n=x.args.length then E else zbf 8 E)
   else (⟨x.op,0,0,0,0⟩,zbf 7 E)
def zzd (op:Int):Bool:=decide (1<=op/\op<=3)
def acT (v:Sv) (x:St) (E:Int):Al × Int:=if zzd x.op=true then acR (zew v x.mod x.name) x E else (⟨x.op,0,0,0,0⟩,E)
mutual
def stT (v:Sv):St->Int->Ac × Int
 | .mk op mod name args body other,E=>
   let h:=acT v (.mk op mod name args body other) E
   let a:=exsT v args h.2
   let b:=blT v body a.2
   let o:=blT v other b.2
   (.mk h.1.op h.1.n h.1.m h.1.at_ a.1 b.1 o.1,o.2)
def blT (v:Sv):List St->Int->List Ac × Int
 | [],E=>([],E)
 | x :: r,E=>((stT v x E).1 :: (blT v r (stT v x E).2).1,(blT v r (stT v x E).2).2)
end
theorem zrw (v:Sv) (x:St) (E:Int):stT v x E=(.mk (acT v x E).1.op (acT v x E).1.n (acT v x E).1.m (acT v x E).1.at_ (exsT v x.args (acT v x E).2).1 (blT v x.body (exsT v x.args (acT v x E).2).2).1 (blT v x.other (blT v x.body (exsT v x.args (acT v x E).2).2).2).1,(blT v x.other (blT v x.body (exsT v x.args (acT v x E).2).2).2).2):=by
 obtain ⟨op,mod,name,args,body,other⟩:=x;rw [stT]
 rfl
theorem zym (v:Sv) (x:Ex) {E:Int} (h:E≠0):(ndT v x E).2=E:=by
 unfold ndT ndR;split
 . split
   . exact zea h
   . simp only [zea h]
     split
     . split<;>rfl
     . split
       . rfl
       . split
         . rfl
         . split
           . rfl
           . split
             . split<;>rfl
             . rfl
 . rfl
mutual
theorem zyn (v:Sv):∀ (x:Ex) {E:Int},E≠0->(exT v x E).2=E
 | .mk op n mod name args,E,h=>by
   rw [exT];show (exsT v args (ndT v (.mk op n mod name args) E).2).2=E;rw [zym v _ h];exact zex v args h
theorem zex (v:Sv):∀ (l:List Ex) {E:Int},E≠0->(exsT v l E).2=E
 | [],E,_=>by rw [exsT]
 | x :: r,E,h=>by
   rw [exsT];show (exsT v r (exT v x E).2).2=E;rw [zyn v x h];exact zex v r h
end
theorem zyo (v:Sv) (x:St) {E:Int} (h:E≠0):(acT v x E).2=E:=by
 unfold acT acR;split
 . split
   . exact zea h
   . simp only [zea h]
     split
     . rfl
     . split
       . rfl
       . split
         . rfl
         . split
           . split<;>rfl
           . rfl
 . rfl
mutual
theorem zyp (v:Sv):∀ (x:St) {E:Int},E≠0->(stT v x E).2=E
 | .mk op mod name args body other,E,h=>by
   rw [stT];show (blT v other (blT v body (exsT v args (acT v (.mk op mod name args body other) E).2).2).2).2=E;rw [zyo v _ h,zex v args h,zct v body h];exact zct v other h
theorem zct (v:Sv):∀ (l:List St) {E:Int},E≠0->(blT v l E).2=E
 | [],E,_=>by rw [blT]
 | x :: r,E,h=>by
   rw [blT];show (blT v r (stT v x E).2).2=E;rw [zyp v x h];exact zct v r h
end
def Ag:Option Mg->Option Mg->Prop
 | none,none=>True
 | some g,some x=>(x.kind=0/\g.m = -1/\g.kind=0/\g.at_=x.at_)\/(1<=x.kind/\x.kind<=4/\g=x/\g.m≠-1)
 | _,_=>False
def exH:Nat->List Ex->Prop
 | 0,l=>l=[]
 | k+1,l=>∀ x ∈ l,(zww x.op=true->x.n=0)/\exH k x.args
theorem zze:∀ (k:Nat) (l:List Ex),zbc k l=true->zai k l=false->exH k l
 | 0,l,_,hm=>by
   have:¬ 0<l.length:=of_decide_eq_false hm;exact vaj (by omega)
 | k+1,l,hf,hm=>fun x hx=>by
   unfold zbc at hf;unfold zai at hm;have h1:=vat.1 hf x hx;simp only [van] at h1;rw [vap] at hm
   have h2:zai k x.args=false:=by
    have:=vau.1 hm.2 x hx;simpa using this
   refine ⟨fun hr=>?_,zze k x.args h1.2.2.2 h2⟩;have hr:3<=x.op/\x.op<=5:=of_decide_eq_true hr;have hn:=h1.2.1
   have e:(exS x.op).number=false:=by
    obtain h | h | h:x.op=3\/x.op=4\/x.op=5:=by omega
    . rw [h];rfl
    . rw [h];rfl
    . rw [h];rfl
   unfold nOk at hn;rw [e] at hn;exact of_decide_eq_true hn
def Tog {α:Type} (r:Except Int α) (p:α × Int):Prop:=match r with
 | .ok y=>p=(y,0)
 | .error e=>e≠0/\p.2=e
theorem zf1 {K:Kn} {L:Lc} {mod name:ByteArray} (h:zhl K L mod name=none) (ks:List Int):findM K L mod name ks=(mg0,5):=by unfold findM;rw [h]
theorem zar {K:Kn} {L:Lc} {mod name:ByteArray} {x:Mg} (h:zhl K L mod name=some x) (ks:List Int):findM K L mod name ks=if ks.contains x.kind then (x,0) else (mg0,7):=by unfold findM;rw [h]
theorem z1w {K:Kn} {L:Lc} {v:Sv} {op n:Int} {mod name:ByteArray} {args:List Ex} (hA:Ag (zew v mod name) (zhl K L mod name)) (hn:zww op=true->n=0) :
 (∀ h,alE (ndM K L (.mk op n mod name args)) = .ok h->ndT v (.mk op n mod name args) 0=(⟨h.op,h.n,h.m,h.at_,0⟩,0))/\(∀ e,alE (ndM K L (.mk op n mod name args)) = .error e->e≠0/\(ndT v (.mk op n mod name args) 0).2=e):=by
 by_cases hr:zww op=true
 . have ho : 3<=op/\op<=5:=of_decide_eq_true hr
   obtain rfl:=hn hr;have hT:ndT v (.mk op 0 mod name args) 0=ndR (zew v mod name) (.mk op 0 mod name args) 0:=if_pos hr;rw [hT]
   cases hf:zew v mod name with
   | none=>
     cases hl:zhl K L mod name with
     | some x=>rw [hf,hl] at hA;exact hA.elim
     | none=>
       have h5:ndM K L (.mk op 0 mod name args)=⟨(ndM K L (.mk op 0 mod name args)).op,(ndM K L (.mk op 0 mod name args)).n,(ndM K L (.mk op 0 mod name args)).m,(ndM K L (.mk op 0 mod name args)).at_,5⟩:=by
        have e:(ndM K L (.mk op 0 mod name args)).err=5:=by
         obtain rfl | rfl | rfl:op=3\/op=4\/op=5:=by omega
         . simp [ndM,ztr,zf1 hl,Ex.op,Ex.mod,Ex.name]
         . simp [ndM,zf1 hl,Ex.op,Ex.mod,Ex.name]
         . simp [ndM,zdn,zf1 hl,Ex.op,Ex.mod,Ex.name]
        rw [← e]
       rw [h5];exact ⟨fun h e=>by simp [alE] at e,fun e he=>by simp [alE] at he;subst he;exact ⟨by decide,zl7 5⟩⟩
   | some g=>
     cases hl:zhl K L mod name with
     | none=>rw [hf,hl] at hA;exact hA.elim
     | some x=>
       rw [hf,hl] at hA;obtain ⟨kd,xn,xm,xa⟩:=x;obtain ⟨gk,gn,gm,ga⟩:=g
       rcases hA with ⟨h1,h2,h3,h4⟩ | ⟨h1,h2,h3,h4⟩
       . obtain rfl:kd=0:=h1
         obtain rfl:gm = -1:=h2;obtain rfl:ga=xa:=h4
         obtain rfl | rfl | rfl:op=3\/op=4\/op=5:=by omega
         . simp [ndM,ztr,zar hl,alE,ndR,Ex.op,Ex.mod,Ex.name,Ex.n,Ex.args,zbf]
         . simp [ndM,zar hl,alE,ndR,Ex.op,Ex.mod,Ex.name,Ex.n,Ex.args,zbf]
         . simp [ndM,zdn,zar hl,alE,ndR,Ex.op,Ex.mod,Ex.name,Ex.n,Ex.args,zbf]
       . obtain ⟨rfl,rfl,rfl,rfl⟩:gk=kd/\gn=xn/\gm=xm/\ga=xa:=by injection h3 with a b c d;exact ⟨a,b,c,d⟩
         have h4:gm≠-1:=h4;have h1:1<=gk:=h1;have h2:gk<=4:=h2
         obtain rfl | rfl | rfl | rfl:gk=1\/gk=2\/gk=3\/gk=4:=by omega
         . obtain rfl | rfl | rfl:op=3\/op=4\/op=5:=by omega
           . simp [ndM,ztr,zar hl,alE,ndR,Ex.op,Ex.mod,Ex.name,Ex.n,Ex.args,zbf,h4]
           . simp [ndM,zar hl,alE,ndR,Ex.op,Ex.mod,Ex.name,Ex.n,Ex.args,zbf,h4]
           . simp [ndM,zdn,zar hl,alE,ndR,Ex.op,Ex.mod,Ex.name,Ex.n,Ex.args,zbf,h4]
         . obtain rfl | rfl | rfl:op=3\/op=4\/op=5:=by omega
           . simp [ndM,ztr,zar hl,alE,ndR,Ex.op,Ex.mod,Ex.name,Ex.n,Ex.args,zbf,h4]
           . simp [ndM,zar hl,alE,ndR,Ex.op,Ex.mod,Ex.name,Ex.n,Ex.args,zbf,h4]
           . simp [ndM,zdn,zar hl,alE,ndR,Ex.op,Ex.mod,Ex.name,Ex.n,Ex.args,zbf,h4]
         . obtain rfl | rfl | rfl:op=3\/op=4\/op=5:=by omega
           . simp [ndM,ztr,zar hl,alE,ndR,Ex.op,Ex.mod,Ex.name,Ex.n,Ex.args,zbf,h4]
           . simp [ndM,zar hl,alE,ndR,Ex.op,Ex.mod,Ex.name,Ex.n,Ex.args,zbf,h4]
           . simp [ndM,zdn,zar hl,alE,ndR,Ex.op,Ex.mod,Ex.name,Ex.n,Ex.args,zbf,h4]
         . obtain rfl | rfl | rfl:op=3\/op=4\/op=5:=by omega
           . simp [ndM,ztr,zar hl,alE,ndR,Ex.op,Ex.mod,Ex.name,Ex.n,Ex.args,zbf,h4]
           . simp [ndM,zar hl,alE,ndR,Ex.op,Ex.mod,Ex.name,Ex.n,Ex.args,zbf,h4]
           . by_cases hc:gn=args.length
             . simp [ndM,zdn,zar hl,alE,ndR,Ex.op,Ex.mod,Ex.name,Ex.n,Ex.args,zbf,h4,hc]
             . simp [ndM,zdn,zar hl,alE,ndR,Ex.op,Ex.mod,Ex.name,Ex.n,Ex.args,zbf,h4,hc]
 . have ho:¬ (3<=op/\op<=5):=fun h=>hr (decide_eq_true h)
   have hT:ndT v (.mk op n mod name args) 0=(⟨op,n,0,0,0⟩,0):=if_neg hr
   have hM:ndM K L (.mk op n mod name args)=⟨op,n,0,0,0⟩:=by
    unfold ndM;rw [if_neg (by show op≠3;omega),if_neg (by show op≠4;omega),if_neg (by show op≠5;omega)]
    rfl
   rw [hT,hM];exact ⟨fun h e=>by simp [alE] at e;rw [← e],fun e he=>by simp [alE] at he⟩
theorem zwm {K:Kn} {L:Lc} {v:Sv} (hA:∀ mod name,Ag (zew v mod name) (zhl K L mod name)):∀ (k:Nat) (l:List Ex),exH k l->Tog (zei K L l) (exsT v l 0)
 | 0,l,h=>by
   obtain rfl:l=[]:=h;rw [zei,exsT]
   rfl
 | k + 1,l,h=>by
   have hx:∀ x ∈ l,Tog (rsE K L x) (exT v x 0):=fun x hx=>by
    obtain ⟨h1,h2⟩:=h x hx;have ih:=zwm hA k x.args h2;obtain ⟨op,n,mod,name,args⟩:=x;obtain ⟨t1,t2⟩:=z1w (v:=v) (K:=K) (L:=L) (op:=op) (n:=n) (mod:=mod) (name:=name) (args:=args) (hA _ _) h1;rw [zrm,zrv]
    cases ha:alE (ndM K L (.mk op n mod name args)) with
    | error e=>
      obtain ⟨h3,h4⟩:=t2 e ha;refine ⟨h3,?_⟩;show (exsT v _ (ndT v _ 0).2).2=e;rw [h4];exact zex v _ h3
    | ok a=>
      rw [t1 a ha];show Tog (zce (zei K L args) _) _;have ih:Tog (zei K L args) (exsT v args 0):=ih
      cases hr:zei K L args with
      | error e=>rw [hr] at ih;exact ih
      | ok y=>
        rw [hr] at ih;have ih:exsT v args 0=(y,0):=ih;show (_,_)=(_,_);simp only [Ex.args];rw [ih]
   clear h
   induction l with
   | nil=>rw [zei,exsT];rfl
   | cons x r ih2=>
     have h1:=hx x (vbg ..);have h2:=ih2 (fun y hy=>hx y (vbi _ hy));rw [zei,exsT]
     cases hr:rsE K L x with
     | error e=>
       rw [hr] at h1;refine ⟨h1.1,?_⟩;show (exsT v r (exT v x 0).2).2=e;rw [h1.2];exact zex v r h1.1
     | ok y=>
       rw [hr] at h1;have h1:exT v x 0=(y,0):=h1;rw [h1]
       cases hq:zei K L r with
       | error e=>rw [hq] at h2;exact h2
       | ok z=>
         rw [hq] at h2;have h2:exsT v r 0=(z,0):=h2;show (_ :: _,_)=(_,_);simp only [h2]
theorem z1x {K:Kn} {L:Lc} {v:Sv} {op:Int} {mod name:ByteArray} {args:List Ex} {body other:List St} (hA:Ag (zew v mod name) (zhl K L mod name)) :
 (∀ h,alE (acM K L (.mk op mod name args body other)) = .ok h->acT v (.mk op mod name args body other) 0=(⟨h.op,h.n,h.m,h.at_,0⟩,0))/\(∀ e,alE (acM K L (.mk op mod name args body other)) = .error e->e≠0/\(acT v (.mk op mod name args body other) 0).2=e):=by
 by_cases hr:zzd op=true
 . have ho : 1<=op/\op<=3:=of_decide_eq_true hr
   have hT:acT v (.mk op mod name args body other) 0=acR (zew v mod name) (.mk op mod name args body other) 0:=if_pos hr;rw [hT]
   cases hf:zew v mod name with
   | none=>
     cases hl:zhl K L mod name with
     | some x=>rw [hf,hl] at hA;exact hA.elim
     | none=>
       have e:(acM K L (.mk op mod name args body other)).err=5:=by
        obtain rfl | rfl | rfl:op=1\/op=2\/op=3:=by omega
        . simp [acM,zf1 hl,St.op,St.mod,St.name]
        . simp [acM,zf1 hl,St.op,St.mod,St.name]
        . simp [acM,zdn,zf1 hl,St.op,St.mod,St.name]
       exact ⟨fun h h'=>by simp [alE,e] at h',fun e' he=>by simp [alE,e] at he;subst he;exact ⟨by decide,zl7 5⟩⟩
   | some g=>
     cases hl:zhl K L mod name with
     | none=>rw [hf,hl] at hA;exact hA.elim
     | some x=>
       rw [hf,hl] at hA;obtain ⟨kd,xn,xm,xa⟩:=x;obtain ⟨gk,gn,gm,ga⟩:=g
       rcases hA with ⟨h1,h2,h3,h4⟩ | ⟨h1,h2,h3,h4⟩
       . obtain rfl:kd=0:=h1
         obtain rfl:gm = -1:=h2;obtain rfl:ga=xa:=h4
         obtain rfl | rfl | rfl:op=1\/op=2\/op=3:=by omega
         . simp [acM,zar hl,alE,acR,St.op,St.mod,St.name,St.args,zbf]
         . simp [acM,zar hl,alE,acR,St.op,St.mod,St.name,St.args,zbf]
         . simp [acM,zdn,zar hl,alE,acR,St.op,St.mod,St.name,St.args,zbf]
       . obtain ⟨rfl,rfl,rfl,rfl⟩:gk=kd/\gn=xn/\gm=xm/\ga=xa:=by injection h3 with a b c d;exact ⟨a,b,c,d⟩
         have h4:gm≠-1:=h4;have h1:1<=gk:=h1;have h2:gk<=4:=h2
         obtain rfl | rfl | rfl | rfl:gk=1\/gk=2\/gk=3\/gk=4:=by omega
         . obtain rfl | rfl | rfl:op=1\/op=2\/op=3:=by omega
           . simp [acM,zar hl,alE,acR,St.op,St.mod,St.name,St.args,zbf,h4]
           . simp [acM,zar hl,alE,acR,St.op,St.mod,St.name,St.args,zbf,h4]
           . simp [acM,zdn,zar hl,alE,acR,St.op,St.mod,St.name,St.args,zbf,h4]
         . obtain rfl | rfl | rfl:op=1\/op=2\/op=3:=by omega
           . simp [acM,zar hl,alE,acR,St.op,St.mod,St.name,St.args,zbf,h4]
           . simp [acM,zar hl,alE,acR,St.op,St.mod,St.name,St.args,zbf,h4]
           . simp [acM,zdn,zar hl,alE,acR,St.op,St.mod,St.name,St.args,zbf,h4]
         . obtain rfl | rfl | rfl:op=1\/op=2\/op=3:=by omega
           . simp [acM,zar hl,alE,acR,St.op,St.mod,St.name,St.args,zbf,h4]
           . simp [acM,zar hl,alE,acR,St.op,St.mod,St.name,St.args,zbf,h4]
           . simp [acM,zdn,zar hl,alE,acR,St.op,St.mod,St.name,St.args,zbf,h4]
         . obtain rfl | rfl | rfl:op=1\/op=2\/op=3:=by omega
           . simp [acM,zar hl,alE,acR,St.op,St.mod,St.name,St.args,zbf,h4]
           . simp [acM,zar hl,alE,acR,St.op,St.mod,St.name,St.args,zbf,h4]
           . by_cases hc:gn=args.length
             . simp [acM,zdn,zar hl,alE,acR,St.op,St.mod,St.name,St.args,zbf,h4,hc]
             . simp [acM,zdn,zar hl,alE,acR,St.op,St.mod,St.name,St.args,zbf,h4,hc]
 . have ho:¬ (1<=op/\op<=3):=fun h=>hr (decide_eq_true h)
   have hT:acT v (.mk op mod name args body other) 0=(⟨op,0,0,0,0⟩,0):=if_neg hr
   have hM:acM K L (.mk op mod name args body other)=⟨op,0,0,0,0⟩:=by
    unfold acM;rw [if_neg (by show op≠1;omega),if_neg (by show op≠2;omega),if_neg (by show op≠3;omega)]
    rfl
   rw [hT,hM];exact ⟨fun h e=>by simp [alE] at e;rw [← e],fun e he=>by simp [alE] at he⟩
def stH:Nat->List St->Prop
 | 0,l=>l=[]
 | k+1,l=>∀ s ∈ l,exH 6 s.args/\stH k s.body/\stH k s.other
theorem zwn:∀ k,stH k []
 | 0=>rfl
 | k+1=>fun s hs=>by cases hs
theorem zrx:∀ (k:Nat) (l:List St),zaj k l=true->zag k l=false->stH k l
 | 0,l,_,hm=>by cases hm
 | k + 1,l,hf,hm=>fun s hs=>by
   unfold zaj at hf;unfold zag at hm;have h1:=vat.1 hf s hs;simp only [van] at h1;rw [vap] at hm;have h2:=vau.1 hm.2 s hs;simp only [vdx,not_or,van,not_and,vce,decide_eq_true_eq] at h2;refine ⟨zze 6 s.args h1.2.2.1 h2.1,?_,?_⟩
   . by_cases h0:0<s.body.length
     . exact zrx k s.body h1.2.2.2.2.2.1 (h2.2.1 (Or.inr h0))
     . rw [vaj (by omega:s.body.length=0)];exact zwn k
   . by_cases h0:0<s.other.length
     . exact zrx k s.other h1.2.2.2.2.2.2 (h2.2.2 h0)
     . rw [vaj (by omega:s.other.length=0)];exact zwn k
theorem znc {K:Kn} {L:Lc} {v:Sv} (hA:∀ mod name,Ag (zew v mod name) (zhl K L mod name)):∀ (k:Nat) (l:List St),stH k l->Tog (zdv K L l) (blT v l 0)
 | 0,l,h=>by
   obtain rfl:l=[]:=h;rw [zdv,blT]
   rfl
 | k + 1, l,h=>by
   have hx:∀ x ∈ l,Tog (rsS K L x) (stT v x 0):=fun x hx=>by
    obtain ⟨h1,h2,h3⟩:=h x hx;have i1:=zwm hA 6 x.args h1;have i2:=znc hA k x.body h2;have i3:=znc hA k x.other h3;obtain ⟨op,mod,name,args,body,other⟩:=x;obtain ⟨t1,t2⟩:=z1x (v:=v) (K:=K) (L:=L) (op:=op) (mod:=mod) (name:=name) (args:=args) (body:=body) (other:=other) (hA _ _);have i1:Tog (zei K L args) (exsT v args 0):=i1;have i2:Tog (zdv K L body) (blT v body 0):=i2;have i3:Tog (zdv K L other) (blT v other 0):=i3;rw [zlz,zrw];show Tog (zce (alE (acM K L (.mk op mod name args body other))) fun h=>zce (zei K L args) fun l=>zce (zdv K L body) fun b=>zce (zdv K L other) fun o=>.ok (Ac.mk h.op h.n h.m h.at_ l b o)) (Ac.mk _ _ _ _ (exsT v args (acT v (.mk op mod name args body other) 0).2).1 (blT v body (exsT v args (acT v (.mk op mod name args body other) 0).2).2).1 (blT v other (blT v body (exsT v args (acT v (.mk op mod name args body other) 0).2).2).2).1,(blT v other (blT v body (exsT v args (acT v (.mk op mod name args body other) 0).2).2).2).2)
    cases ha:alE (acM K L (.mk op mod name args body other)) with
    | error e=>
      obtain ⟨h3,h4⟩:=t2 e ha;refine ⟨h3,?_⟩;show (blT v other (blT v body (exsT v args (acT v (.mk op mod name args body other) 0).2).2).2).2=e;rw [h4,zex v _ h3,zct v _ h3];exact zct v _ h3
    | ok a=>
      rw [t1 a ha]
      cases hr:zei K L args with
      | error e=>
        rw [hr] at i1;refine ⟨i1.1,?_⟩;show (blT v other (blT v body (exsT v args 0).2).2).2=e;rw [i1.2,zct v _ i1.1];exact zct v _ i1.1
      | ok y=>
        rw [hr] at i1;have i1:exsT v args 0=(y,0):=i1;rw [i1]
        cases hb:zdv K L body with
        | error e=>
          rw [hb] at i2;refine ⟨i2.1,?_⟩;show (blT v other (blT v body 0).2).2=e;rw [i2.2];exact zct v _ i2.1
        | ok z=>
          rw [hb] at i2;have i2:blT v body 0=(z,0):=i2;rw [i2]
          cases ho:zdv K L other with
          | error e=>rw [ho] at i3;exact i3
          | ok u=>
            rw [ho] at i3;have i3:blT v other 0=(u,0):=i3;show (_,_)=(_,_);simp only [i3]
   clear h
   induction l with
   | nil=>rw [zdv,blT];rfl
   | cons x r ih2=>
     have h1:=hx x (vbg ..);have h2:=ih2 (fun y hy=>hx y (vbi _ hy));rw [zdv,blT]
     cases hr:rsS K L x with
     | error e=>
       rw [hr] at h1;refine ⟨h1.1,?_⟩;show (blT v r (stT v x 0).2).2=e;rw [h1.2];exact zct v r h1.1
     | ok y=>
       rw [hr] at h1;have h1:stT v x 0=(y,0):=h1;rw [h1]
       cases hq:zdv K L r with
       | error e=>rw [hq] at h2;exact h2
       | ok z=>
         rw [hq] at h2;have h2:blT v r 0=(z,0):=h2;show (_ :: _,_)=(_,_);simp only [h2]
end Go.Proofs.YtndkhgakfodldaaGreatDoor

namespace Go.Proofs.YtndkhgakfodldaaGreatDoor
open Go.RowKit
set_option linter.unusedSimpArgs false
set_option linter.unusedVariables false
structure ItFit (it:It) (top:Int):Prop where
 kind:1<=it.kind/\it.kind<=3
 num:it.kind=1->0<=it.n/\it.n<=1099511627775
 var:it.kind=2->0<=it.at_/\it.at_+1<=top
 arr:it.kind=3->(1<=it.n/\it.n<=32)/\0<=it.at_/\it.at_+it.n<=top
theorem zry:∀ (l:List De) (a:Int),0<=a->(∀ d ∈ l,zcf d=true/\1<=d.kind/\d.kind<=3)->a<=(layD a l).2/\∀ it ∈ (layD a l).1,ItFit it (layD a l).2
 | [],a,_,_=>⟨Int.le_refl _,fun it h=>(by cases h)⟩
 | d :: r,a,ha,h=>by
   obtain ⟨hs,hk1,hk3⟩:=h d (by simp)
   have hn3:d.kind=3->1<=d.n/\d.n<=32:=fun e=>by
    unfold zcf at hs;rw [e,if_neg (by decide),if_pos rfl] at hs;simpa using hs
   have hn1:d.kind=1->0<=d.n/\d.n<=1099511627775:=fun e=>by
    unfold zcf at hs;rw [if_pos e] at hs;simpa [numOkB] using hs
   have hnx:a<=zcc a d:=by
    unfold zcc
    by_cases e2:d.kind=2
    . rw [if_pos e2];omega
    . rw [if_neg e2]
      by_cases e3:d.kind=3
      . rw [if_pos e3];have:=hn3 e3;omega
      . rw [if_neg e3];omega
   obtain ⟨ih1,ih2⟩:=zry r (zcc a d) (by omega) (fun x hx=>h x (by simp [hx]));refine ⟨by show a<=(layD (zcc a d) r).2;omega,fun it hit=>?_⟩
   rcases vbo.1 hit with rfl | hit
   . show ItFit (layIt a d) (layD (zcc a d) r).2
     refine ⟨⟨hk1,hk3⟩,hn1,fun e=>?_,fun e=>?_⟩
     . have e':d.kind=2:=e
       have:zcc a d=a+1:=by unfold zcc;rw [if_pos e']
       show 0<=(if d.kind=2\/d.kind=3 then a else 0)/\(if d.kind=2\/d.kind=3 then a else 0)+1<=_;rw [if_pos (Or.inl e')];omega
     . have e':d.kind=3:=e
       have:zcc a d=a+d.n:=by unfold zcc;rw [if_neg (by omega),if_pos e']
       show (1<=d.n/\d.n<=32)/\0<=(if d.kind=2\/d.kind=3 then a else 0)/\(if d.kind=2\/d.kind=3 then a else 0)+d.n<=_;rw [if_pos (Or.inr e')];have:=hn3 e';omega
   . exact ih2 it hit
theorem zor:∀ (l:List Pr) (i:Nat) (it:It),it ∈ prIts i l->∃ j,∃ hj:j<l.length,it=zts (i+j) l[j]
 | [],_,_,h=>by cases h
 | p :: r,i,it,h=>by
   rcases vbo.1 h with rfl | h
   . exact ⟨0,by simp,rfl⟩
   . obtain ⟨j,hj,e⟩:=zor r (i+1) it h
     exact ⟨j+1,by simpa using hj,by rw [e];simp only [vbv];congr 1;omega⟩
end Go.Proofs.YtndkhgakfodldaaGreatDoor
