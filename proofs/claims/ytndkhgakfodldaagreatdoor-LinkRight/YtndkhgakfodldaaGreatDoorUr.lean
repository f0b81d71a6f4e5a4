import Derived.Deep.DeepCutAuto
import Derived.Test.YtndkhgakfodldaaGreatDoorNo
namespace Go.Proofs.YtndkhgakfodldaaGreatDoor
set_option maxRecDepth 100000
set_option maxHeartbeats 8000000
open Go.RowKit Go.Maps Go.WideMaps
set_option linter.unusedSimpArgs false
theorem zjq {ops:Array Oper} {o:Oper} {a:Act} {K:Act->World->Prop} {Q:Exit->Act->World->Prop} {E:Prop} {w:World} (hgd:o.guard=none) (s x:Operand)
 (ho:o.op = .call { callee:=.builtin .append,args:=#[s,x],argTypes:=#[22,22] }) (us:List ByteArray) (b:OA) (c:Nat) (hs:a.eval s = .slice none 0 0) (hx:a.eval x = .slice b us.length c) (hS:Fx.zfe w b us) (hlen:us.length<=10000)
 (h:∀ v' w',w'.ownsRow w.heap.size 9 1 v' us.length (strV us)->Below w.heap.size w w'->K (a.put o.dst v') w') :
 if Region.wanted o (yielded ops a.tmps)=true then Oper.wp Tryz.prog o a w K Q else E:=by
 have hw:Region.wanted o (yielded ops a.tmps)=true:=by simp [Region.wanted,hgd]
 rw [if_pos hw];obtain ⟨v',w',hr,h2,h3⟩:=zdb w.heap.size o.type (.slice none 0 0) 0 [] (vek _ _ _ _) us b c hS (by omega) (vaa _);refine Lib.wp_append_run w s x _ _ ho _ _ hs hx v' w' hr (h v' w' (by simpa using h2) ?_);exact (Below.refl w.heap.size w).grown h3 (vaa _) (fun k hk=>by simp [Value.ownBlock] at hk)
theorem Tryz.infoPart:(Tryz.prog.info? 106).map (fun i=>(i.zero,i.size,i.bytes))=some (some (.agg #[.int .i64 0,.int .i64 0,.slice none 0 0]),3,40):=by kernel_rfl
theorem z3a {A:Nat->Prop} {t:Pt} {w:World} {a:OA} {cap:Nat} (h:EAt w A a t.body.length (zdm t.body)):zau w A t.ds [.int .i64 t.params,.int .i64 t.locals,.slice a t.body.length cap]:=.cons zpw (.cons zpw (.cons h.val .nil))
theorem z0a (l:List Pt) (x:Pt):zk7 (l++[x])=zk7 l++x.ds:=by simp [zk7]
theorem zvf {w:World} {b:Nat} {x0 x1 x2 x3 x4:Value} {t:TypeId} (h:w.heap[b]? = some (.cells #[x0,x1,x2,x3,x4] t (0,0))):w.cell? ⟨b,0,none⟩=some x0/\w.cell? ⟨b,1,none⟩=some x1/\w.cell? ⟨b,2,none⟩=some x2/\w.cell? ⟨b,3,none⟩=some x3/\w.cell? ⟨b,4,none⟩=some x4/\(∀ i,w.frozen? ⟨b,i,none⟩=false)/\b<w.heap.size:=by
 obtain ⟨h0,h1,h2,h3,h4,h5⟩:=zaa h;exact ⟨h0,h1,h2,h3,h4,h5,lt_of_heap h⟩
theorem zln {W:World} {b:Nat} {x0 x1:Value} (hb:b<W.heap.size) (h:W.cell? ⟨b,0,none⟩=some x0/\W.cell? ⟨b,1,none⟩=some x1) (o:Obj):(W.alloc o).cell? ⟨b,0,none⟩=some x0/\(W.alloc o).cell? ⟨b,1,none⟩=some x1:=
 ⟨((al1 W o).cell (p:=⟨b,0,none⟩) hb).trans h.1,((al1 W o).cell (p:=⟨b,1,none⟩) hb).trans h.2⟩
theorem zwy {W:World} {b:Nat} {x0 x1:Value} (hb:b<W.heap.size) (h:W.cell? ⟨b,0,none⟩=some x0/\W.cell? ⟨b,1,none⟩=some x1) (o:Obj):(W.alloc o).drew.cell? ⟨b,0,none⟩=some x0/\(W.alloc o).drew.cell? ⟨b,1,none⟩=some x1:=zln hb h o
theorem z55 {W:World} {b c:Nat} {x0 x1:Value} (hn:b≠c) (h:W.cell? ⟨b,0,none⟩=some x0/\W.cell? ⟨b,1,none⟩=some x1) (u0 u1 u2 u3 u4:Value) :
 (((((W.setCell ⟨c,0,none⟩ u0).setCell ⟨c,1,none⟩ u1).setCell ⟨c,2,none⟩ u2).setCell ⟨c,3,none⟩ u3).setCell ⟨c,4,none⟩ u4).cell? ⟨b,0,none⟩=some x0/\(((((W.setCell ⟨c,0,none⟩ u0).setCell ⟨c,1,none⟩ u1).setCell ⟨c,2,none⟩ u2).setCell ⟨c,3,none⟩ u3).setCell ⟨c,4,none⟩ u4).cell? ⟨b,1,none⟩=some x1:=by
 have e:(((((W.setCell ⟨c,0,none⟩ u0).setCell ⟨c,1,none⟩ u1).setCell ⟨c,2,none⟩ u2).setCell ⟨c,3,none⟩ u3).setCell ⟨c,4,none⟩ u4).heap[b]? = W.heap[b]?:=(heap_set_ne hn _).trans ((heap_set_ne hn _).trans ((heap_set_ne hn _).trans ((heap_set_ne hn _).trans (heap_set_ne hn _))));exact ⟨(vei (w:=W) (a:=⟨b,0,none⟩) e).trans h.1,(vei (w:=W) (a:=⟨b,1,none⟩) e).trans h.2⟩
theorem bdrew (w:World):Below w.heap.size w w.drew:=(Below.refl _ _).drew
theorem zbe (w:World) (o:Obj):Below w.heap.size w (w.alloc o).drew:=((Below.refl _ w).alloc (vaa _) o).drew
theorem zwz {w wu:World} {x0 x1 x2 x3 x4:Value} {t:TypeId} (hb:Below (w.alloc (.cells #[x0,x1,x2,x3,x4] t)).drew.heap.size (w.alloc (.cells #[x0,x1,x2,x3,x4] t)).drew wu) :
 wu.cell? ⟨w.heap.size,0,none⟩=some x0/\wu.cell? ⟨w.heap.size,1,none⟩=some x1/\wu.cell? ⟨w.heap.size,2,none⟩=some x2/\wu.cell? ⟨w.heap.size,3,none⟩=some x3/\wu.cell? ⟨w.heap.size,4,none⟩=some x4/\(∀ i,wu.frozen? ⟨w.heap.size,i,none⟩=false)/\w.heap.size<wu.heap.size:=by
 have h:wu.heap[w.heap.size]? = some (.cells #[x0,x1,x2,x3,x4] t):=(hb.block w.heap.size (by show w.heap.size<(w.alloc _).heap.size;simp)).trans (heap_newP w _);obtain ⟨h0,h1,h2,h3,h4,h5⟩:=zaa h;exact ⟨h0,h1,h2,h3,h4,h5,lt_of_heap h⟩
theorem znv {A:Nat->Prop} {w:World}:∀ (l:List ByteArray),(∀ s ∈ l,s.size<=maxLen)->zau w A (zaj l) (strV l)
 | [],_=>.nil
 | s :: r,h=>.cons (zxa (h s (by simp))) (znv r fun x hx=>h x (by simp [hx]))
theorem z3b {w:World} {B:Nat} {v:Value} {l:List ByteArray} (h:w.ownsRow B 9 1 v l.length (strV l)) (hs:∀ s ∈ l,s.size<=maxLen):∀ a cap,v = .slice a l.length cap->EAt w (B<=·) a l.length (zaj l):=by
 rintro a cap rfl;exact EAt.of_own h (fun _ h=>h) (znv l hs)
theorem z3c (m:Mo) (v:Value) (a1:OA) (c1:Nat) (a2:OA) (c2:Nat) (a3:OA) (c3:Nat) (a4:OA) (c4:Nat) (l:List Fc) (al:OA) (cl:Nat) (w:World) (hM:MoAt w Tt m v a1 c1 a2 c2 a3 c3 a4 c4) (he:m.err=0) (hF:DAt w Tt al l.length (z52 l)) (hl3:l.length<=3) (h16:∀ f ∈ l,f.items.length<=16) :
 Calls Tryz.prog 64 #[v,.slice al l.length cl] w fun e w'=>zz9 w.heap.size (zjp m l) e w'/\Below w.heap.size w w':=by
 obtain rfl:=hM.val;have HM:=hid hM;have HLy:=zz1 he;have HPa:=hid (zfb he);have HFs:=hid hF;have H16:=hid h16;have HC:=hid (ziu m _ a1 c1 a2 c2 a3 c3 a4 c4 ((w.alloc (.cells #[.string m.name,.slice a1 m.uses.length c1,.slice a2 m.decls.length c2,.slice a3 m.procs.length c3,.slice a4 m.main.length c4] 27)).alloc (.cells #[.string ⟨#[]⟩,.slice none 0 0,.int .i64 0,.slice none 0 0,.slice none 0 0] 42)) (hM.later (bl2 _ _ _)) HLy)
 have HIl:Hid ((za6 m).length<=16):=by have h1:=HLy.decls;have h2:=HLy.procs;show (za6 m).length<=16;rw [zgd];omega
 have hd10:=HLy.decls;have hp6:=HLy.procs;clear hM hF h16 he HLy;go_enter Tryz.func64,Tryz.ntmps64;go_wp2_with fail;refine HC.out.mono ?_;rintro e w1 ⟨⟨ai,ci,rfl,hit⟩,hb1⟩;have HB1:=hid (thenB (bl2 w _ _) hb1);have hz1:=hb1.size;simp at hz1;have P0:=hid ((hb1.block w.heap.size (by simp;omega)).trans (zab (heap_newP w _)));have P1:Hid (w1.heap[w.heap.size+1]? = some (.cells #[.string ⟨#[]⟩,.slice none 0 0,.int .i64 0,.slice none 0 0,.slice none 0 0] 42)):=(hb1.block (w.heap.size+1) (by simp)).trans (by simpa using heap_newP (w.alloc _) _);obtain ⟨HI,HF⟩:=zpd hit;have HIt:=hid HI;have HFi:=hid HF;have hmm:=@run_makeMap Tryz.prog;have HKm0:=hid ((zl2.made w1).later (al1 _ (.cells #[.map (some w1.heap.size)] 189)));have HIb:=hid (zlm HI (R:=w1.heap.size) (vaa _));have HC2:=hid (zlh (fun _ _=>none) w1.heap.size 0 ⟨#[]⟩ 0 (za6 m) ai ci ((w1.alloc (.map #[] 0)).alloc (.cells #[.map (some w1.heap.size)] 189)) HKm0.out (vag _) (HI.later (bl2 _ _ _)) HF (by have:=HIl.out;omega) (by omega) HIb.out)
 clear hb1 hit HI HF HC;go_wp2_with fail;refine HC2.out.mono ?_;rintro e w2 ⟨rfl,hkm,hke⟩
 have HKm:Hid (zl2 w2 w1.heap.size (za6 m).length (z53 m)):=by have:=hkm;rw [vba] at this;exact this
 have HE:=hid hke;clear hkm hke HC2 hmm HKm0;go_wp2_with fail
 go_loopw [9,10,30] (fun _ _ i wr=>∃ (j n:Nat),j<=l.length/\i = .int .i64 j/\n<=16+16*j/\zl2 wr w1.heap.size n (zh8 (z53 m) (l.take j))/\Keeps w1.heap.size ((w1.alloc (.map #[] 0)).alloc (.cells #[.map (some w1.heap.size)] 189)) wr) (fun _ _ i _=>l.length - (intOf i).toNat)
 case atStart=>exact ⟨0,_,vag _,rfl,by have:=HIl.out;omega,HKm.out,HE.out⟩
 case round =>
  clear HKm HE;obtain ⟨j,n,hj,rfl,hn,hkm,hke⟩:=hrel;have HKm:=hid hkm;have HE:=hid hke;have hzr:=hke.size;simp at hzr;have nb:wr.heap[w1.heap.size+1]? = some (.cells #[.map (some w1.heap.size)] 189):=(hke.block _ (by simp) (by omega)).trans (by simpa using heap_newP (w1.alloc (.map #[] 0)) (.cells #[.map (some w1.heap.size)] 189));have HNb:=hid nb
  have k0:wr.cell? ⟨w1.heap.size+1,0,none⟩=some (.map (some w1.heap.size)):=by rw [vef nb];rfl
  have hnl:=lt_of_heap nb;have HBr:Hid (Below w.heap.size w wr):=Keeps.below (thenB HB1.out (bl2 _ _ _)) HE.out (by omega) (by simp;omega);clear hkm hke nb
  by_cases hlt:j<l.length
  . obtain ⟨b,off,aj,cj,rfl,hbl,x0,x1,hnm,hdj⟩:=(HFs.out.later HBr.out).fc j hlt
    obtain ⟨b',off',aj',cj',hal,hbl0,_,x1',_,hdj0⟩:=HFs.out.fc j hlt
    have hjj:aj'=aj:=by
     have e0:=vab hal
     injection e0 with e1 e2
     subst e1 e2;have:=(HBr.out.cell (p:=⟨b,off+j*2+1,none⟩) hbl0).trans x1';rw [this] at x1;have:=vab x1;injection this
    subst hjj;obtain ⟨HIj,HFj⟩:=zll hdj;have hib:=zlm (zll hdj0).1 (R:=w1.heap.size) (by omega);have h16j:=H16.out l[j] (vaj _)
    have HSn:Hid (ziw (zh8 (z53 m) (l.take j)) l[j].name ((j:Int)+1) l[j].items=zh8 (z53 m) (l.take (j+1))):=by
     show _=zh8 (z53 m) (l.take (j+1));rw [vaf hlt,ztd,vcc,vdl (by omega)]
    have hwr:IntKind.i64.wrap ((j:Int)+1)=(j:Int)+1:=by simp only [IntKind.wrap,IntKind.bits,IntKind.signed];simp;omega
    clear hal hbl0 x1' hdj hdj0;generalize l[j]=f at *;have HC3:=hid (zlh (zh8 (z53 m) (l.take j)) w1.heap.size n f.name ((j:Int)+1) f.items aj' cj (wr.alloc (.cells #[.string f.name,.slice aj' f.items.length cj] 30)) (HKm.out.later (al1 _ _)) hnm (HIj.later (al1 _ _)) HFj (by omega) (by omega) hib);clear hnm HIj HFj hib;go_wp2_with fail;refine HC3.out.mono ?_;rintro e w3 ⟨rfl,hkm3,hke3⟩;rw [HSn.out] at hkm3;have HKm3:=hid hkm3;have HE3:=hid ((HE.out.alloc (.cells #[.string f.name,.slice aj' f.items.length cj] 30)).trans hke3);clear hkm3 hke3 HC3;go_wp2_with fail;go_roundw
    case rel=>exact ⟨j+1,n+f.items.length,by omega,by go_num,by omega,HKm3.out,HE3.out⟩
    case measure=>simp [intOf];omega
  . obtain rfl:j=l.length:=by omega
    have HKf:Hid (zmg wr (.map (some w1.heap.size)) (zd9 m l)):=by have:=HKm.out.known;rw [vau] at this;exact this
    have Q0:Hid (wr.heap[w.heap.size]? = some (.cells #[.string m.name,.slice a1 m.uses.length c1,.slice a2 m.decls.length c2,.slice a3 m.procs.length c3,.slice a4 m.main.length c4] 27)):=(HE.out.block _ (by simp;omega) (by omega)).trans (zab (zab P0.out));have Q1:Hid (wr.heap[w.heap.size+1]? = some (.cells #[.string ⟨#[]⟩,.slice none 0 0,.int .i64 0,.slice none 0 0,.slice none 0 0] 42)):=(HE.out.block _ (by simp;omega) (by omega)).trans (zab (zab P1.out));have HUs:=hid (fun W (hW:Below wr.heap.size wr W)=>((zel HM.out.uses).1.later (thenB HBr.out hW)));obtain ⟨x0,x1,x2,x3,x4,xf⟩:=zaa Q0.out;have hl0:=lt_of_heap Q0.out;have hu3:=HPa.out.1;have HSz:=hid (zel HM.out.uses).2;have HBx:=hid (fun W (hW:Below wr.heap.size wr W)=>zvf ((hW.block _ hl0).trans Q0.out));clear HKm HE k0;go_wp2_with fail
    obtain ⟨wL,hwL⟩:∃ x,x=wr:=⟨_,rfl⟩
    subst hwL
    go_cut [11] (fun v wc=>∃ (U:Nat) (au:OA) (cu:Nat),v = .pointer (some ⟨U,0,none⟩)/\wL.heap.size<=U/\Hid (Below wL.heap.size wL wc)/\Hid (wc.heap[U]? = some (.cells #[.string m.name,.slice au m.uses.length cu,.int .i64 (zb3 m),.slice none 0 0,.slice none 0 0] 42))/\Hid (EAt wc (fun b=>wL.heap.size<=b/\b≠U) au m.uses.length (zaj m.uses)))
    case first=>
     have hne1:w.heap.size≠wL.heap.size:=by omega
     have FF0:Hid (wL.cell? ⟨w.heap.size,0,none⟩=some (.string m.name)/\wL.cell? ⟨w.heap.size,1,none⟩=some (.slice a1 m.uses.length c1)):=⟨x0,x1⟩
     have FF:Hid (wL.drew.cell? ⟨w.heap.size,0,none⟩=some (.string m.name)/\wL.drew.cell? ⟨w.heap.size,1,none⟩=some (.slice a1 m.uses.length c1)):=⟨x0,x1⟩
     go_region_held_law (fun W=>W.cell? ⟨w.heap.size,0,none⟩=some (.string m.name)/\W.cell? ⟨w.heap.size,1,none⟩=some (.slice a1 m.uses.length c1)) (first | with_reducible exact FF.out | with_reducible exact zln hfl FF.out _ | with_reducible exact zwy hl0 FF0.out _ | with_reducible exact zln hl0 FF0.out _ | with_reducible exact z55 hne1 FF.out _ _ _ _ _)
      (first | (refine zjq rfl _ _ rfl m.uses a1 c1 rfl rfl (HUs.out _ (by first | exact bdrew wL | exact zbe wL _)) (by omega) ?_;intro vu wu hou hbu;have HEu:=hid (z3b hou HSz.out);obtain ⟨au,cu,rfl,_⟩:=zj4 hou;clear hou;(first | (refine And.elim ?_ (zwz hbu);intro e0 hcs;obtain ⟨e1,e2,e3,e4,ef,hel⟩:=hcs;refine And.elim ?_ (HBx.out wu (thenB (zbe wL _) hbu));intro f0 fr;obtain ⟨f1,f2,f3,f4,ff,hfl⟩:=fr;have HBu:=hid (thenB (zbe wL _) hbu);have FF:=hid (And.intro f0 f1)) | (refine And.elim ?_ (HBx.out wu (thenB (bdrew wL) hbu));intro f0 fr;obtain ⟨f1,f2,f3,f4,ff,hfl⟩:=fr;have HBu:=hid (thenB (bdrew wL) hbu);have FF:=hid (And.intro f0 f1)))))
     . have HW:Hid (Below wL.heap.size wL (wu.alloc (.cells #[.string m.name,.slice au m.uses.length cu,.int .i64 (zb3 m),.slice none 0 0,.slice none 0 0] 42))):=thenB HBu.out (al1 _ _)
       have HU:Hid ((wu.alloc (.cells #[.string m.name,.slice au m.uses.length cu,.int .i64 (zb3 m),.slice none 0 0,.slice none 0 0] 42)).heap[wu.heap.size]? = some (.cells #[.string m.name,.slice au m.uses.length cu,.int .i64 (zb3 m),.slice none 0 0,.slice none 0 0] 42)):=heap_newP _ _;have HA:Hid (EAt (wu.alloc (.cells #[.string m.name,.slice au m.uses.length cu,.int .i64 (zb3 m),.slice none 0 0,.slice none 0 0] 42)) (fun b=>wL.heap.size<=b/\b≠wu.heap.size) au m.uses.length (zaj m.uses)):=(HEu.out au cu rfl).moves ⟨by simp,fun b hb h=>⟨⟨h,by omega⟩,(al1 _ _).block b hb⟩⟩;have hU:wL.heap.size<=wu.heap.size:=HBu.out.size;go_wp2_with fail;go_meet;exact ⟨_,au,cu,rfl,hU,HW,HU,HA⟩
     . have HW:Hid (Below wL.heap.size wL (((((wu.setCell ⟨wL.heap.size,0,none⟩ (.string m.name)).setCell ⟨wL.heap.size,1,none⟩ (.slice au m.uses.length cu)).setCell ⟨wL.heap.size,2,none⟩ (.int .i64 (zb3 m))).setCell ⟨wL.heap.size,3,none⟩ (.slice none 0 0)).setCell ⟨wL.heap.size,4,none⟩ (.slice none 0 0))):=zdx HBu.out (vaa _) _ _ _ _ _
       have HU:Hid ((((((wu.setCell ⟨wL.heap.size,0,none⟩ (.string m.name)).setCell ⟨wL.heap.size,1,none⟩ (.slice au m.uses.length cu)).setCell ⟨wL.heap.size,2,none⟩ (.int .i64 (zb3 m))).setCell ⟨wL.heap.size,3,none⟩ (.slice none 0 0)).setCell ⟨wL.heap.size,4,none⟩ (.slice none 0 0)).heap[wL.heap.size]? = some (.cells #[.string m.name,.slice au m.uses.length cu,.int .i64 (zb3 m),.slice none 0 0,.slice none 0 0] 42)):=heap_set (heap_set (heap_set (heap_set (heap_set ((hbu.block wL.heap.size (by show wL.heap.size<(wL.alloc _).heap.size;simp)).trans (heap_newP wL _)) _) _) _) _) _;have HA:Hid (EAt (((((wu.setCell ⟨wL.heap.size,0,none⟩ (.string m.name)).setCell ⟨wL.heap.size,1,none⟩ (.slice au m.uses.length cu)).setCell ⟨wL.heap.size,2,none⟩ (.int .i64 (zb3 m))).setCell ⟨wL.heap.size,3,none⟩ (.slice none 0 0)).setCell ⟨wL.heap.size,4,none⟩ (.slice none 0 0)) (fun b=>wL.heap.size<=b/\b≠wL.heap.size) au m.uses.length (zaj m.uses)):=((HEu.out au cu rfl).moves ⟨vaa _,fun b hb h=>⟨(⟨by have:(wL.alloc _).heap.size<=b:=h;simp at this;omega,by have:(wL.alloc _).heap.size<=b:=h;simp at this;omega⟩:wL.heap.size<=b/\b≠wL.heap.size),rfl⟩⟩:EAt wu (fun b=>wL.heap.size<=b/\b≠wL.heap.size) au m.uses.length (zaj m.uses)).moves ((zad.refl wu (fun b=>wL.heap.size<=b/\b≠wL.heap.size)).set5 (by intro k _ hk;exact hk.2) _ _ _ _ _)
       have hU:wL.heap.size<=wL.heap.size:=vaa _;go_wp2_with fail;go_meet;exact ⟨_,au,cu,rfl,hU,HW,HU,HA⟩
    case rest=>
     obtain ⟨U,au,cu,rfl,hU,HW,HU,HA⟩:=hcut;have hUl:=lt_of_heap HU.out;have T0:=hid ((HW.out.block _ hl0).trans Q0.out);have T1:=hid ((HW.out.block _ (lt_of_heap Q1.out)).trans Q1.out);have T2:=hid ((HW.out.block _ hnl).trans HNb.out);have hl1:=lt_of_heap Q1.out;clear x0 x1 x2 x3 x4 xf;generalize wc=W3 at *;obtain ⟨x0,x1,x2,x3,x4,xf⟩:=zaa T0.out;have hlT0:=lt_of_heap T0.out;have hlT1:=lt_of_heap T1.out;have hlT2:=lt_of_heap T2.out;have hz3:=HW.out.size;go_wp2_with fail;clear x0 x1 x2 x3 x4 xf
     go_loopw [13,14,15,54] (fun _ _ _ i wt=>∃ (j:Nat) (acc:List Pt) (vp:Value),j<=m.procs.length/\i = .int .i64 j/\acc.length=j/\zcb (zd9 m l) (m.procs.take j) = .ok acc/\wt.heap[U]? = some (.cells #[.string m.name,.slice au m.uses.length cu,.int .i64 (zb3 m),vp,.slice none 0 0] 42)/\Row W3.heap.size 106 3 wt vp acc.length (zk7 acc)/\Keeps U W3 wt) (fun _ _ _ i _=>m.procs.length - (intOf i).toNat)
     case atStart=>exact ⟨0,[],.slice none 0 0,vag _,rfl,rfl,rfl,HU.out,Row.nil _ _ _ _,Keeps.refl _ _⟩
     case round=>
      clear HU;obtain ⟨j,acc,vp,hj,rfl,hacc,hpm,hub,hrow,hke⟩:=hrel;have HPm:=hid hpm;have HUb:=hid hub;have HRo:=hid hrow;have HKe:=hid hke;have hzt:=hke.size;have hUt:=lt_of_heap hub;have R0:=hid ((hke.block _ hlT0 (by omega)).trans T0.out);have R1:=hid ((hke.block _ hlT1 (by omega)).trans T1.out);have R2:=hid ((hke.block _ hlT2 (by omega)).trans T2.out);have HBL:Hid (Below wL.heap.size wL wr):=Keeps.below HW.out hke hU (by omega);have HBw:=hid (thenB HBr.out HBL.out);have HKt:=hid (HKf.out.later HBL.out);obtain ⟨x0,x1,x2,x3,x4,xf⟩:=zaa R0.out
      have n0:wr.cell? ⟨w1.heap.size+1,0,none⟩=some (.map (some w1.heap.size)):=by rw [vef R2.out];rfl
      have hlR0:=lt_of_heap R0.out;have hlR1:=lt_of_heap R1.out;have hlR2:=lt_of_heap R2.out;clear hpm hub hrow hke
      by_cases hlt:j<m.procs.length
      . obtain ⟨b,off,q1,d1,q2,d2,q3,d3,rfl,hx⟩:=(HM.out.procs.later HBw.out).pr j hlt
        obtain ⟨hbl,g0,g1,g2,g3,g4,hq1,hq2,hq3,hnm⟩:=hx;obtain ⟨hpp,hpl,hpb⟩:=HPa.out.2.2.2.1 m.procs[j] (vaj _);have HErr:=hid (fun c (he:zlk (zd9 m l) m.procs[j] = .error c)=>zwx (zww hlt HPm.out he));have HOk:=hid (fun y (he:zlk (zd9 m l) m.procs[j] = .ok y)=>zte hlt HPm.out he);generalize m.procs[j]=p at *;have HC4:=hid (z29 (zd9 m l) w1.heap.size p q1 d1 q2 d2 q3 d3 (wr.alloc (.cells #[.string p.name,.bool p.pub,.slice q1 p.params.length d1,.slice q2 p.locals.length d2,.slice q3 p.body.length d3] 118)) (HKt.out.later (al1 _ _)) (hq1.later (al1 _ _)) (hq2.later (al1 _ _)) (hq3.later (al1 _ _)) hpp hpl hpb);clear hq1 hq2 hq3 hpp hpl hpb hnm x0 x1 x2 x3 x4 xf;go_wp2_with fail;refine HC4.out.mono ?_;rintro e w4 ⟨hend,hb4⟩;have HB4:=hid (thenB (al1 wr _) hb4);have hz4:=hb4.size;simp at hz4;clear hb4 HC4 n0 g0 g1 g2 g3 g4
        cases hr:zlk (zd9 m l) p with
        | error c=>
          rw [hr] at hend;obtain ⟨px,py,pa,pk,pc,rfl,hne⟩:=hend;have HR:=hid (HErr.out c hr);have v1:=(HB4.out.block _ hlR1).trans R1.out;have hlr:=lt_of_heap v1;obtain ⟨r0,r1,r2,r3,r4,rf⟩:=zaa v1;clear hr v1;go_wp2_with fail;refine bodyPost_ret (v:=.tuple #[.agg #[.string ⟨#[]⟩,.slice none 0 0,.int .i64 0,.slice none 0 0,.slice none 0 0],.int .i64 c]) (by simp [results,Tryz.results64,go_sem,r0,r1,r2,r3,r4,hlr]) rfl ⟨by rw [HR.out];exact ⟨rfl,hne⟩,?_⟩;exact (zdx (thenB HBw.out HB4.out) (by omega) _ _ _ _ _).alloc (by simp;omega) _
        | ok t=>
          rw [hr] at hend;obtain ⟨pa,pc,rfl,hea⟩:=hend;have HR:=hid (HOk.out t hr);have HUb4:=hid ((HB4.out.block _ hUt).trans HUb.out);have HRo4:Hid (Row W3.heap.size 106 3 (w4.alloc (.cells #[.int .i64 t.params,.int .i64 t.locals,.slice pa t.body.length pc] 106)) vp acc.length (zk7 acc)):=(HRo.out.later HB4.out).alloc _;have HE4:Hid (zau (w4.alloc (.cells #[.int .i64 t.params,.int .i64 t.locals,.slice pa t.body.length pc] 106)) (wr.heap.size+1<=·) t.ds [.int .i64 t.params,.int .i64 t.locals,.slice pa t.body.length pc]):=z3a (hea.moves (((zad.refl w4 _).alloc _).trans ⟨vaa _,fun b _ h=>⟨by simp at h;exact h,rfl⟩⟩));have HLt:=hid (fun k hk=>(HRo.out.lt k hk).2);obtain ⟨o0,o1,o2,o3,o4,of⟩:=zaa HUb4.out;have hUl4:=lt_of_heap HUb4.out;have HKe4:=hid (((HKe.out.later HB4.out)).alloc (.cells #[.int .i64 t.params,.int .i64 t.locals,.slice pa t.body.length pc] 106))
          clear hr hea
          go_wp2_with (at_builtin;refine zbs rfl (.tmp 69) (.tmp 71) 39 rfl W3.heap.size 106 _ 3 40 Tryz.underlying39 Tryz.infoPart rfl (by decide) (w4.alloc (.cells #[.int .i64 t.params,.int .i64 t.locals,.slice pa t.body.length pc] 106)) vp acc.length (zk7 acc) t.ds rfl HRo4.out #[.int .i64 t.params,.int .i64 t.locals,.slice pa t.body.length pc] _ (by simp) rfl rfl (wr.heap.size+1<=·) HE4.out ?_ (by omega) (by decide) (by simp;omega) ?_)
          . intro b _ hb
            have hb':wr.heap.size+1<=b:=hb;exact ⟨by omega,fun h=>by have:=HLt.out b h;omega⟩
          . intro g5 c5 w5 HO5 HB5 hz5
            have HKe5:=hid (HKe4.out.belowOf HB5);have HUb5:=hid ((HB5.block _ (by omega)).trans (zab HUb4.out));have HO5':=hid (HO5.set (p:=⟨U,3,none⟩) (by show U<W3.heap.size;omega) (.slice (some ⟨g5,0,none⟩) (j+1) c5));have HUb6:Hid ((w5.setCell ⟨U,3,none⟩ (.slice (some ⟨g5,0,none⟩) (j+1) c5)).heap[U]? = some (.cells #[.string m.name,.slice au m.uses.length cu,.int .i64 (zb3 m),.slice (some ⟨g5,0,none⟩) (j+1) c5,.slice none 0 0] 42)):=heap_set HUb5.out _;have HKe6:=hid (HKe5.out.own 3 (.slice (some ⟨g5,0,none⟩) (j+1) c5));obtain ⟨s0,s1,s2,s3,s4,sf⟩:=zaa HUb5.out;have hUl5:=lt_of_heap HUb5.out;clear HO5 HB5 HRo4 HE4 o0 o1 o2 o3 o4 of HKe5 HKe4;go_wp2_with fail;go_roundw
            case rel=>exact ⟨j+1,acc++[t],_,by omega,by go_num,by simp [hacc],HR.out,HUb6.out,by rw [z0a,vam,hacc];exact HO5'.out,HKe6.out⟩
            case measure=>simp [intOf];omega
      . obtain rfl:j=m.procs.length:=by omega
        have HPf:Hid (zcb (zd9 m l) m.procs = .ok acc):=by have:=HPm.out;rw [vau] at this;exact this
        have HC5:=hid (zj2 6 m.main HPa.out.2.2.2.2 (zd9 m l) (fun _=>none) (.map (some w1.heap.size)) (.map none) Tt a4 c4 wr HKt.out (zwv wr) (HM.out.main.later HBw.out));go_wp2_with fail;refine HC5.out.mono ?_;rintro e w4 ⟨hend,hb4⟩;have HB4:=hid hb4;have hz4:=hb4.size;have v1:=(hb4.block _ hlR1).trans R1.out;have hlr:=lt_of_heap v1;obtain ⟨r0,r1,r2,r3,r4,rf⟩:=zaa v1;have HUb4:=hid ((hb4.block _ hUt).trans HUb.out);clear hb4 HC5 v1 n0 x0 x1 x2 x3 x4 xf
        cases hr:zfo (zd9 m l) (fun _=>none) m.main with
        | error c=>
          rw [hr] at hend;obtain ⟨rfl,hne⟩:=hend;have HR:=hid (zz8 HPf.out hr);clear hr;go_wp2_with fail;refine bodyPost_ret (v:=.tuple #[.agg #[.string ⟨#[]⟩,.slice none 0 0,.int .i64 0,.slice none 0 0,.slice none 0 0],.int .i64 c]) (by simp [results,Tryz.results64,go_sem,r0,r1,r2,r3,r4,hlr]) rfl ⟨by rw [HR.out];exact ⟨rfl,hne⟩,?_⟩;exact zdx (thenB HBw.out HB4.out) (by omega) _ _ _ _ _
        | ok bd=>
          rw [hr] at hend;obtain ⟨ab,cb,rfl,hea⟩:=hend;have HR:=hid (z54 HPf.out hr);obtain ⟨ap,cp,rfl,hep⟩:=HRo.out.slice;obtain ⟨o0,o1,o2,o3,o4,of⟩:=zaa HUb4.out;have hUl4:=lt_of_heap HUb4.out
          have hUn:U≠w.heap.size+1:=by omega
          have HMv:Hid (∀ u v0 v1 v2 v3 v4,∀ A:Nat->Prop,(∀ b,A b->w.heap.size+2<=b/\b≠U)->zad w4 A (set5 (w4.setCell ⟨U,4,none⟩ u) (w.heap.size+1) v0 v1 v2 v3 v4) (w.heap.size<=·)):=fun u v0 v1 v2 v3 v4 A hA=>
           (((zad.refl w4 A).set (p:=⟨U,4,none⟩) (fun b _ hb=>(hA b hb).2) u).set5 (b:=w.heap.size+1) (fun b _ hb=>by have:=(hA b hb).1;omega) v0 v1 v2 v3 v4).trans ⟨vaa _,fun b _ h=>⟨by have:=(hA b h).1;show w.heap.size<=b;omega,rfl⟩⟩
          have HA4:Hid (EAt w4 (fun b=>wL.heap.size<=b/\b≠U) au m.uses.length (zaj m.uses)):=(HA.out.moves ((zad.refl W3 _).keeps HKe.out (fun b _ h=>h.2))).later HB4.out;have HP4:Hid (EAt w4 (W3.heap.size<=·) ap acc.length (zk7 acc)):=hep.later HB4.out;have HM4:Hid (EAt w4 (wr.heap.size<=·) ab bd.length (zdm bd)):=hea;have hzw:=HBr.out.size;clear hr hea hep HRo;go_wp2_with fail;refine bodyPost_ret (v:=.tuple #[.agg #[.string m.name,.slice au m.uses.length cu,.int .i64 (zb3 m),.slice ap acc.length cp,.slice ab bd.length cb],.int .i64 0]) (by simp [results,Tryz.results64,go_sem,r0,r1,r2,r3,r4,hlr,hacc]) rfl ⟨?_,?_⟩
          . rw [HR.out]
            exact ⟨au,cu,ap,cp,ab,cb,rfl,HA4.out.moves (HMv.out _ _ _ _ _ _ _ (fun b h=>⟨by have:=h.1;omega,h.2⟩)),HP4.out.moves (HMv.out _ _ _ _ _ _ _ (fun b h=>by have:W3.heap.size<=b:=h;exact ⟨by omega,by omega⟩)),HM4.out.moves (HMv.out _ _ _ _ _ _ _ (fun b h=>by have:wr.heap.size<=b:=h;exact ⟨by omega,by omega⟩))⟩
          . exact zdx ((thenB HBw.out HB4.out).setCell (p:=⟨U,4,none⟩) (by show w.heap.size<=U;omega) _) (by omega) _ _ _ _ _
def za7 (p:Fc × ByteArray):Bool:=Fx.zl0 p.1 == 0&&decide (p.1.name=p.2)
def zee (m:Mo) (l:List Fc):Except Int Un:=
 if chkM m≠0 then .error (chkM m) else if l.length≠m.uses.length then .error 8 else if (l.zip m.uses).all za7 then zjp m l else .error 1
theorem z3d {m:Mo} {l:List Fc} (hl:l.length=m.uses.length) (j:Nat) (h:j<l.length):((l.zip m.uses).take (j+1)).all za7=(((l.zip m.uses).take j).all za7&&za7 (l[j],m.uses[j]'(by omega))):=by
 have hz:j<(l.zip m.uses).length:=by rw [vdo];omega
 rw [vaf hz,vbm,vdx];simp
theorem z56 {m:Mo} {l:List Fc} (hl:l.length=m.uses.length) (j:Nat) (h:j<l.length) (hf:za7 (l[j],m.uses[j]'(by omega))=false):(l.zip m.uses).all za7=false:=by
 have hz:j<(l.zip m.uses).length:=by rw [vdo];omega
 rw [vcw];exact ⟨(l.zip m.uses)[j],vaj _,by rw [vdx];simp [hf]⟩
theorem z0b {m:Mo} {l:List Fc} (hl:l.length=m.uses.length) (h:(l.zip m.uses).all za7=true):∀ f ∈ l,f.items.length<=16:=by
 intro f hf;obtain ⟨j,hj,rfl⟩:=vbl hf
 have hz:j<(l.zip m.uses).length:=by rw [vdo];omega
 have:=vas.1 h _ (vaj hz);rw [vdx] at this;unfold za7 at this;simp only [vac,beq_iff_eq] at this;have hc:=this.1;unfold Fx.zl0 at hc
 by_cases h16:16<l[j].items.length
 . rw [if_pos h16] at hc;cases hc
 . omega
section
variable {P:Program} {ops:Array Oper} {Q:Exit->Act->World->Prop} {md:Region.Mode} {S:World->Prop} {o1:Op} {o2:TypeId} {o3:String} {o4:Array Edge} {o5:Option (Nat × Bool)} {v:Value} {fuel:Nat} {listed:Array Bool} {a:Act} {w:World}
theorem tq (i d:Nat) (hS:S w) (h:wpAnyH P md ops Q S fuel (listed.setIfInBounds i true) (a.put (some d) v) w) (hi:ops[i]? = some (Oper.mk (some d) o1 o2 o3 o4 o5):=by exact rfl)
 (hg:Region.wanted (Oper.mk (some d) o1 o2 o3 o4 o5) (yielded ops a.tmps)=true:=by rfl) (hy:∀ w,S w->(execOp a.eval (Oper.mk (some d) o1 o2 o3 o4 o5)).run P w = .ok (.value v) w:=by (intro w hSw;(try dsimp only at hSw);go_simp;(try with_reducible rfl)))
 (hb:(Region.noSelect ops&&(Region.free md ops listed i&&(Region.ready md ops listed).contains i))=true:=by kernel_rfl)
 (hQ:∀ c a w,Q (.panic c) (a.put (some d) v) w->Q (.panic c) a w:=by exact fun _ _ _ h=>h):wpAnyH P md ops Q S (fuel+1) listed a w:=by
 simp only [vac] at hb;exact wpAnyH_take hi hb.1 hb.2.1 hb.2.2 hQ (Or.inl ⟨hg,hy⟩) hS h
theorem tu (i d:Nat) (hS:S w) (h:wpAnyH P md ops Q S fuel (listed.setIfInBounds i true) (a.put (some d) undef) w) (hi:ops[i]? = some (Oper.mk (some d) o1 o2 o3 o4 o5):=by exact rfl)
 (hg:Region.wanted (Oper.mk (some d) o1 o2 o3 o4 o5) (yielded ops a.tmps)=false:=by rfl)
 (hb:(Region.noSelect ops&&(Region.free md ops listed i&&(Region.ready md ops listed).contains i))=true:=by kernel_rfl)
 (hQ:∀ c a w,Q (.panic c) (a.put (some d) undef) w->Q (.panic c) a w:=by exact fun _ _ _ h=>h):wpAnyH P md ops Q S (fuel+1) listed a w:=by
 simp only [vac] at hb;exact wpAnyH_take hi hb.1 hb.2.1 hb.2.2 hQ (Or.inr ⟨hg,rfl⟩) hS h
end
theorem znw (a b:ByteArray):(a.toList == b.toList)=decide (a=b):=by
 rw [vcj];simp only [beq_iff_eq,decide_eq_true_eq]
 constructor
 . intro h
   rw [vax,vax] at h;exact zli h
 . rintro rfl;rfl
theorem ztf (f:Fc) (h:Fx.zl0 f≠0):Fx.zl0 f=1\/Fx.zl0 f=2:=by
 unfold Fx.zl0 at h ⊢;split
 . exact Or.inr rfl
 . rename_i h1
   rw [if_neg h1] at h;split
   . rename_i h2;rw [if_pos h2] at h;exact absurd rfl h
   . exact Or.inl rfl
theorem fits_cells {w W:World} {x0 x1 v1 z:Value} {t:TypeId} {b bu o:Nat} (hW:Below (w.alloc (.cells #[x0,x1] t)).heap.size (w.alloc (.cells #[x0,x1] t)) W) (h1:w.cell? ⟨b,1,none⟩=some v1) (hb:b<w.heap.size) (h2:w.cell? ⟨bu,o,none⟩=some z) (hbu:bu<w.heap.size) :
 W.cell? ⟨w.heap.size,0,none⟩=some x0/\W.cell? ⟨w.heap.size,1,none⟩=some x1/\W.cell? ⟨b,1,none⟩=some v1/\W.cell? ⟨bu,o,none⟩=some z:=by
 obtain ⟨k0,k1,_⟩:=zcl ((hW.block w.heap.size (by simp)).trans (heap_newP w _));exact ⟨k0,k1,(hW.cell (p:=⟨b,1,none⟩) (by show b<_;simp;omega)).trans (((al1 w _).cell (p:=⟨b,1,none⟩) hb).trans h1),(hW.cell (p:=⟨bu,o,none⟩) (by show bu<_;simp;omega)).trans (((al1 w _).cell (p:=⟨bu,o,none⟩) hbu).trans h2)⟩
theorem ztg (m:Mo) (v:Value) (a1:OA) (c1:Nat) (a2:OA) (c2:Nat) (a3:OA) (c3:Nat) (a4:OA) (c4:Nat) (l:List Fc) (al:OA) (cl:Nat) (w:World) (hM:MoAt w Tt m v a1 c1 a2 c2 a3 c3 a4 c4) (hF:DAt w Tt al l.length (z52 l)) :
 Calls Tryz.prog 21 #[v,.slice al l.length cl] w fun e w'=>zz9 w.heap.size (zee m l) e w'/\Below w.heap.size w w':=by
 obtain rfl:=hM.val;have HM:=hid hM;have HFs:=hid hF;have hbd:=hF.bound;have hbu:=hM.uses.bound;have HC:=hid (zge m _ a1 c1 a2 c2 a3 c3 a4 c4 ((w.alloc (.cells #[.string m.name,.slice a1 m.uses.length c1,.slice a2 m.decls.length c2,.slice a3 m.procs.length c3,.slice a4 m.main.length c4] 27)).alloc (.cells #[.string ⟨#[]⟩,.slice none 0 0,.int .i64 0,.slice none 0 0,.slice none 0 0] 42)) (hM.later (bl2 _ _ _)));clear hM hF
 obtain ⟨r,hr⟩:∃ r,r=zee m l:=⟨_,rfl⟩
 rw [← hr];have HR0:=hid hr;clear hr;go_enter Tryz.func21,Tryz.ntmps21;go_wp2_with fail;refine HC.out.mono ?_;rintro e w1 ⟨rfl,hb1⟩;have HB1:=hid (thenB (bl2 w _ _) hb1);have hz1:=hb1.size;simp at hz1;have P0:=hid ((hb1.block w.heap.size (by simp;omega)).trans (zab (heap_newP w _)));have P1:Hid (w1.heap[w.heap.size+1]? = some (.cells #[.string ⟨#[]⟩,.slice none 0 0,.int .i64 0,.slice none 0 0,.slice none 0 0] 42)):=(hb1.block (w.heap.size+1) (by simp)).trans (by simpa using heap_newP (w.alloc _) _);obtain ⟨x0,x1,x2,x3,x4,xf⟩:=zaa P0.out;obtain ⟨r0,r1,r2,r3,r4,rf⟩:=zaa P1.out;have hlx:=lt_of_heap P0.out;have hlr:=lt_of_heap P1.out;clear hb1 HC
 by_cases hc:chkM m=0
 case neg=>
  have HR:Hid (r = .error (chkM m)):=HR0.out.trans (if_pos hc);go_wp2_with fail;refine bodyPost_ret (v:=.tuple #[.agg #[.string ⟨#[]⟩,.slice none 0 0,.int .i64 0,.slice none 0 0,.slice none 0 0],.int .i64 (chkM m)]) (by simp [results,Tryz.results21,go_sem,r0,r1,r2,r3,r4,hlr]) rfl ⟨by rw [HR.out];exact ⟨rfl,hc⟩,?_⟩;exact zdx HB1.out (by omega) _ _ _ _ _
 have HR1:Hid (r=if l.length≠m.uses.length then .error 8 else if (l.zip m.uses).all za7 then zjp m l else .error 1):=HR0.out.trans (if_neg (by simp [hc]));have HZ:=hid hc;rw [hc];clear hc HR0
 by_cases hlen:l.length=m.uses.length
 case neg=>
  have HR:Hid (r = .error 8):=HR1.out.trans (if_pos hlen)
  have hne1:¬ ((l.length:Int)=m.uses.length):=by omega
  go_wp2_with fail;refine bodyPost_ret (v:=.tuple #[.agg #[.string ⟨#[]⟩,.slice none 0 0,.int .i64 0,.slice none 0 0,.slice none 0 0],.int .i64 8]) (by simp [results,Tryz.results21,go_sem,r0,r1,r2,r3,r4,hlr]) rfl ⟨by rw [HR.out];exact ⟨rfl,by decide⟩,?_⟩;exact zdx HB1.out (by omega) _ _ _ _ _
 have HR2:Hid (r=if (l.zip m.uses).all za7 then zjp m l else .error 1):=HR1.out.trans (if_neg (by simp [hlen]));have HLn:=hid hlen;have hu3:=(zfb (zpe HZ.out)).1
 have hlI:(l.length:Int)=(m.uses.length:Int):=by omega
 clear HR1 hlen;go_wp2_with fail;clear hlI
 go_loopw [7,8,24] (fun _ _ i wr=>∃ j:Nat,j<=l.length/\i = .int .i64 j/\((l.zip m.uses).take j).all za7=true/\Below w1.heap.size w1 wr) (fun _ _ i _=>l.length - (intOf i).toNat)
 case atStart=>exact ⟨0,vag _,rfl,rfl,Below.refl _ _⟩
 case round=>
  obtain ⟨j,hj,rfl,hall,hbr⟩:=hrel;have HAl:=hid hall;have HB:=hid hbr;have hzr:=hbr.size;have HBw:=hid (thenB HB1.out hbr);have R0:=hid ((hbr.block _ hlx).trans P0.out);have R1:=hid ((hbr.block _ hlr).trans P1.out);clear hall hbr x0 x1 x2 x3 x4 xf r0 r1 r2 r3 r4 rf;obtain ⟨x0,x1,x2,x3,x4,xf⟩:=zaa R0.out;obtain ⟨r0,r1,r2,r3,r4,rf⟩:=zaa R1.out;have hlx':=lt_of_heap R0.out;have hlr':=lt_of_heap R1.out
  by_cases hlt:j<l.length
  . have hju:j<m.uses.length:=by have:=HLn.out;omega
    obtain ⟨b,off,aj,cj,rfl,hbl,y0,y1,hnm,hdj⟩:=(HFs.out.later HBw.out).fc j hlt;obtain ⟨bu,ou,rfl,hblu,z0,hzm⟩:=(HM.out.uses.later HBw.out).str j hju;obtain ⟨HIj,HFj⟩:=zll hdj;have hbj:=hdj.bound;have HSn:=hid (z3d HLn.out j hlt);have HNo:=hid (z56 HLn.out j hlt)
    have hji:(j:Int)<m.uses.length:=by omega
    generalize l[j]=f at *;generalize m.uses[j]'hju=u at *;have HCf:=hid (fun W (hW:Below wr.heap.size wr W)=>Fx.zmk f aj cj W (HIj.later hW) (by omega) hnm HFj);have HS:=hid (fun W (hW:Below (wr.alloc (.cells #[.string f.name,.slice aj f.items.length cj] 30)).heap.size (wr.alloc (.cells #[.string f.name,.slice aj f.items.length cj] 30)) W)=>(fits_cells hW x1 hlx' z0 hblu:W.cell? ⟨wr.heap.size,0,none⟩=some (.string f.name)/\W.cell? ⟨wr.heap.size,1,none⟩=some (.slice aj f.items.length cj)/\W.cell? ⟨w.heap.size,1,none⟩=some (.slice (some ⟨bu,ou,none⟩) m.uses.length c1)/\W.cell? ⟨bu,ou+j,none⟩=some (.string u)));have FF:=hid (HS.out _ (bdrew _));clear hdj HIj HFj
    by_cases hcf:Fx.zl0 f=0
    . cases hsu:decide (f.name=u) with
      | true=>
        have HFf:Hid (za7 (f,u)=true):=by show za7 (f,u)=true;unfold za7;simp only [hcf,hsu];rfl
        have HSt:Hid (((l.zip m.uses).take (j+1)).all za7=true):=HSn.out.trans (by rw [HAl.out,HFf.out];rfl);rw [hcf] at HCf;have hst:(f.name.toList == u.toList)=true:=(znw _ _).trans hsu;clear HSn HNo hcf;go_wp2_with fail
        go_region_held (fun W=>W.cell? ⟨wr.heap.size,0,none⟩=some (.string f.name)/\W.cell? ⟨wr.heap.size,1,none⟩=some (.slice aj f.items.length cj)/\W.cell? ⟨w.heap.size,1,none⟩=some (.slice (some ⟨bu,ou,none⟩) m.uses.length c1)/\W.cell? ⟨bu,ou+j,none⟩=some (.string u)) (exact FF.out)
         (first | (go_at_call 19;refine (HCf.out _ (zbe wr _)).mono ?_;rintro e w3 ⟨rfl,hb3⟩;have HB3:=hid (thenB (bdrew (wr.alloc (.cells #[.string f.name,.slice aj f.items.length cj] 30))) hb3);have FF:=hid (HS.out _ HB3.out);clear hb3))
        have HBf:=hid (thenB (thenB HBw.out (al1 wr (.cells #[.string f.name,.slice aj f.items.length cj] 30))) HB3.out);have hz3:=HB3.out.size;simp at hz3;have v1:=(HB3.out.block _ (by simp;omega)).trans (zab (o:=(.cells #[.string f.name,.slice aj f.items.length cj] 30)) R1.out);clear r0 r1 r2 r3 r4 rf;obtain ⟨r0,r1,r2,r3,r4,rf⟩:=zaa v1;have hlr3:=lt_of_heap v1;clear v1;go_wp2_with fail;go_roundw
        case rel=>exact ⟨j+1,by omega,by go_num,HSt.out,thenB (thenB HB.out (al1 wr _)) HB3.out⟩
        case measure=>simp [intOf];omega
      | false=>
        have HFf:Hid (za7 (f,u)=false):=by show za7 (f,u)=false;unfold za7;simp only [hsu,Bool.and_false]
        rw [hcf] at HCf;have hst:(f.name.toList == u.toList)=false:=(znw _ _).trans hsu;clear HSn hcf;have HR:Hid (r = .error 1):=HR2.out.trans (if_neg (by rw [HNo.out HFf.out];decide));go_wp2_with fail
        go_region_held (fun W=>W.cell? ⟨wr.heap.size,0,none⟩=some (.string f.name)/\W.cell? ⟨wr.heap.size,1,none⟩=some (.slice aj f.items.length cj)/\W.cell? ⟨w.heap.size,1,none⟩=some (.slice (some ⟨bu,ou,none⟩) m.uses.length c1)/\W.cell? ⟨bu,ou+j,none⟩=some (.string u)) (exact FF.out)
         (first | (go_at_call 19;refine (HCf.out _ (zbe wr _)).mono ?_;rintro e w3 ⟨rfl,hb3⟩;have HB3:=hid (thenB (bdrew (wr.alloc (.cells #[.string f.name,.slice aj f.items.length cj] 30))) hb3);have FF:=hid (HS.out _ HB3.out);clear hb3))
        have HBf:=hid (thenB (thenB HBw.out (al1 wr (.cells #[.string f.name,.slice aj f.items.length cj] 30))) HB3.out);have hz3:=HB3.out.size;simp at hz3;have v1:=(HB3.out.block _ (by simp;omega)).trans (zab (o:=(.cells #[.string f.name,.slice aj f.items.length cj] 30)) R1.out);clear r0 r1 r2 r3 r4 rf;obtain ⟨r0,r1,r2,r3,r4,rf⟩:=zaa v1;have hlr3:=lt_of_heap v1;clear v1;go_wp2_with fail;refine bodyPost_ret (v:=.tuple #[.agg #[.string ⟨#[]⟩,.slice none 0 0,.int .i64 0,.slice none 0 0,.slice none 0 0],.int .i64 1]) (by simp [results,Tryz.results21,go_sem,r0,r1,r2,r3,r4,hlr3]) rfl ⟨by rw [HR.out];exact ⟨rfl,by decide⟩,?_⟩;exact zdx HBf.out (by omega) _ _ _ _ _
    . have HFf:Hid (za7 (f,u)=false):=by show za7 (f,u)=false;unfold za7;simp only [beq_eq_false_iff_ne.2 hcf,vec]
      clear HSn
      rcases ztf f hcf with hc1 | hc2
      . rw [hc1] at HCf
        clear hcf hc1;have HR:Hid (r = .error 1):=HR2.out.trans (if_neg (by rw [HNo.out HFf.out];decide));go_wp2_with fail;refine wp_region_held_drew (S:=(fun W=>W.cell? ⟨wr.heap.size,0,none⟩=some (.string f.name)/\W.cell? ⟨wr.heap.size,1,none⟩=some (.slice aj f.items.length cj)/\W.cell? ⟨w.heap.size,1,none⟩=some (.slice (some ⟨bu,ou,none⟩) m.uses.length c1)/\W.cell? ⟨bu,ou+j,none⟩=some (.string u))) (by kernel_rfl) FF.out (fun hHeld=>?_);refine tq 0 29 hHeld ?_
        (try simp only [Act.put,vad,van,vap])
        refine wpAnyH_ready (rs:=[1]) (by kernel_rfl) (by simp) ?_;refine AllReadyH.cons rfl (fun K hK=>?_) AllReadyH.nil;go_simp
        go_wp2_with (go_at_call 19;refine (HCf.out _ (zbe wr _)).mono ?_;rintro e w3 ⟨rfl,hb3⟩)
        have HB3:=hid (thenB (bdrew (wr.alloc (.cells #[.string f.name,.slice aj f.items.length cj] 30))) hb3);clear hb3;refine hK.out _ _ (HS.out _ HB3.out) (fun hHeld=>?_);clear hK K;refine tq 2 31 hHeld ?_
        (try simp only [Act.put,vad,van,vap])
        refine tq 3 32 hHeld ?_
        (try simp only [Act.put,vad,van,vap])
        refine tu 4 33 hHeld ?_
        (try simp only [Act.put,vad,van,vap])
        refine tu 5 34 hHeld ?_
        (try simp only [Act.put,vad,van,vap])
        refine tu 6 35 hHeld ?_
        (try simp only [Act.put,vad,van,vap])
        refine tu 7 36 hHeld ?_
        (try simp only [Act.put,vad,van,vap])
        refine tu 8 37 hHeld ?_
        (try simp only [Act.put,vad,van,vap])
        refine tu 9 38 hHeld ?_
        (try simp only [Act.put,vad,van,vap])
        refine tu 10 39 hHeld ?_
        (try simp only [Act.put,vad,van,vap])
        refine tu 11 40 hHeld ?_
        (try simp only [Act.put,vad,van,vap])
        refine tq 12 41 hHeld ?_
        (try simp only [Act.put,vad,van,vap])
        refine wpAnyH_done (by kernel_rfl) ?_ _;have HBf:=hid (thenB (thenB HBw.out (al1 wr (.cells #[.string f.name,.slice aj f.items.length cj] 30))) HB3.out);have hz3:=HB3.out.size;simp at hz3;have v1:=(HB3.out.block _ (by simp;omega)).trans (zab (o:=(.cells #[.string f.name,.slice aj f.items.length cj] 30)) R1.out);clear r0 r1 r2 r3 r4 rf;obtain ⟨r0,r1,r2,r3,r4,rf⟩:=zaa v1;have hlr3:=lt_of_heap v1;clear v1;go_wp2_with fail;refine bodyPost_ret (v:=.tuple #[.agg #[.string ⟨#[]⟩,.slice none 0 0,.int .i64 0,.slice none 0 0,.slice none 0 0],.int .i64 1]) (by simp [results,Tryz.results21,go_sem,r0,r1,r2,r3,r4,hlr3]) rfl ⟨by rw [HR.out];exact ⟨rfl,by decide⟩,?_⟩;exact zdx HBf.out (by omega) _ _ _ _ _
      . rw [hc2] at HCf
        clear hcf hc2;have HR:Hid (r = .error 1):=HR2.out.trans (if_neg (by rw [HNo.out HFf.out];decide));go_wp2_with fail;refine wp_region_held_drew (S:=(fun W=>W.cell? ⟨wr.heap.size,0,none⟩=some (.string f.name)/\W.cell? ⟨wr.heap.size,1,none⟩=some (.slice aj f.items.length cj)/\W.cell? ⟨w.heap.size,1,none⟩=some (.slice (some ⟨bu,ou,none⟩) m.uses.length c1)/\W.cell? ⟨bu,ou+j,none⟩=some (.string u))) (by kernel_rfl) FF.out (fun hHeld=>?_);refine tq 0 29 hHeld ?_
        (try simp only [Act.put,vad,van,vap])
        refine wpAnyH_ready (rs:=[1]) (by kernel_rfl) (by simp) ?_;refine AllReadyH.cons rfl (fun K hK=>?_) AllReadyH.nil;go_simp
        go_wp2_with (go_at_call 19;refine (HCf.out _ (zbe wr _)).mono ?_;rintro e w3 ⟨rfl,hb3⟩)
        have HB3:=hid (thenB (bdrew (wr.alloc (.cells #[.string f.name,.slice aj f.items.length cj] 30))) hb3);clear hb3;refine hK.out _ _ (HS.out _ HB3.out) (fun hHeld=>?_);clear hK K;refine tq 2 31 hHeld ?_
        (try simp only [Act.put,vad,van,vap])
        refine tq 3 32 hHeld ?_
        (try simp only [Act.put,vad,van,vap])
        refine tu 4 33 hHeld ?_
        (try simp only [Act.put,vad,van,vap])
        refine tu 5 34 hHeld ?_
        (try simp only [Act.put,vad,van,vap])
        refine tu 6 35 hHeld ?_
        (try simp only [Act.put,vad,van,vap])
        refine tu 7 36 hHeld ?_
        (try simp only [Act.put,vad,van,vap])
        refine tu 8 37 hHeld ?_
        (try simp only [Act.put,vad,van,vap])
        refine tu 9 38 hHeld ?_
        (try simp only [Act.put,vad,van,vap])
        refine tu 10 39 hHeld ?_
        (try simp only [Act.put,vad,van,vap])
        refine tu 11 40 hHeld ?_
        (try simp only [Act.put,vad,van,vap])
        refine tq 12 41 hHeld ?_
        (try simp only [Act.put,vad,van,vap])
        refine wpAnyH_done (by kernel_rfl) ?_ _;have HBf:=hid (thenB (thenB HBw.out (al1 wr (.cells #[.string f.name,.slice aj f.items.length cj] 30))) HB3.out);have hz3:=HB3.out.size;simp at hz3;have v1:=(HB3.out.block _ (by simp;omega)).trans (zab (o:=(.cells #[.string f.name,.slice aj f.items.length cj] 30)) R1.out);clear r0 r1 r2 r3 r4 rf;obtain ⟨r0,r1,r2,r3,r4,rf⟩:=zaa v1;have hlr3:=lt_of_heap v1;clear v1;go_wp2_with fail;refine bodyPost_ret (v:=.tuple #[.agg #[.string ⟨#[]⟩,.slice none 0 0,.int .i64 0,.slice none 0 0,.slice none 0 0],.int .i64 1]) (by simp [results,Tryz.results21,go_sem,r0,r1,r2,r3,r4,hlr3]) rfl ⟨by rw [HR.out];exact ⟨rfl,by decide⟩,?_⟩;exact zdx HBf.out (by omega) _ _ _ _ _
  . obtain rfl:j=l.length:=by omega
    have hnl:¬ (l.length<m.uses.length):=by have:=HLn.out;omega
    have HAf:Hid ((l.zip m.uses).all za7=true):=by have:=HAl.out;rw [vaw (by rw [vdo];omega)] at this;exact this
    have HR:Hid (r=zjp m l):=HR2.out.trans (if_pos HAf.out);have HC5:=hid (z3c m _ a1 c1 a2 c2 a3 c3 a4 c4 l al cl wr (HM.out.later HBw.out) (zpe HZ.out) (HFs.out.later HBw.out) (by have:=HLn.out;omega) (z0b HLn.out HAf.out));go_wp2_with fail;refine HC5.out.mono ?_;rintro e w5 ⟨hend,hb5⟩;have HB5:=hid (thenB HBw.out hb5);have hz5:=hb5.size;have v1:=(hb5.block _ hlr').trans R1.out;clear r0 r1 r2 r3 r4 rf;obtain ⟨r0,r1,r2,r3,r4,rf⟩:=zaa v1;have hlr5:=lt_of_heap v1;clear hb5 v1 HC5
    cases hq:zjp m l with
    | error c=>
      rw [hq] at hend;obtain ⟨rfl,hne⟩:=hend;have HRe:Hid (r = .error c):=HR.out.trans hq;clear hq;go_wp2_with fail;refine bodyPost_ret (v:=.tuple #[.agg #[.string ⟨#[]⟩,.slice none 0 0,.int .i64 0,.slice none 0 0,.slice none 0 0],.int .i64 c]) (by simp [results,Tryz.results21,go_sem,r0,r1,r2,r3,r4,hlr5]) rfl ⟨by rw [HRe.out];exact ⟨rfl,hne⟩,?_⟩;exact zdx HB5.out (by omega) _ _ _ _ _
    | ok q=>
      rw [hq] at hend;obtain ⟨g1,k1,g2,k2,g3,k3,rfl,he1,he2,he3⟩:=hend;have HRe:Hid (r = .ok q):=HR.out.trans hq
      have HMv:Hid (∀ v0 v1 v2 v3 v4,zad w5 (wr.heap.size<=·) (set5 w5 (w.heap.size+1) v0 v1 v2 v3 v4) (w.heap.size<=·)):=fun v0 v1 v2 v3 v4=>
       ((zad.refl w5 (wr.heap.size<=·)).set5 (b:=w.heap.size+1) (fun b _ hb=>by have:wr.heap.size<=b:=hb;omega) v0 v1 v2 v3 v4).trans ⟨vaa _,fun b _ h=>⟨by have:wr.heap.size<=b:=h;show w.heap.size<=b;omega,rfl⟩⟩
      have HE1:=hid he1;have HE2:=hid he2;have HE3:=hid he3;clear hq he1 he2 he3;go_wp2_with fail;refine bodyPost_ret (v:=.tuple #[.agg #[.string q.name,.slice g1 q.uses.length k1,.int .i64 q.data,.slice g2 q.parts.length k2,.slice g3 q.main.length k3],.int .i64 0]) (by simp [results,Tryz.results21,go_sem,r0,r1,r2,r3,r4,hlr5]) rfl ⟨?_,?_⟩
      . rw [HRe.out]
        exact ⟨g1,k1,g2,k2,g3,k3,rfl,HE1.out.moves (HMv.out _ _ _ _ _),HE2.out.moves (HMv.out _ _ _ _ _),HE3.out.moves (HMv.out _ _ _ _ _)⟩
      . exact zdx HB5.out (by omega) _ _ _ _ _
end Go.Proofs.YtndkhgakfodldaaGreatDoor

namespace Go.Proofs.YtndkhgakfodldaaGreatDoor
open Go.RowKit
set_option linter.unusedSimpArgs false
set_option linter.unusedVariables false
theorem z0c {n:Int} (h1 : -1000000000000000<=n) (h2:n<=1000000000000000):(Lit.int .i64 n).wf=true:=by
 simp only [Lit.wf,vac,decide_eq_true_eq];exact ⟨by show (-9223372036854775808:Int)<=n;omega,by show n<=(9223372036854775807:Int);omega⟩
end Go.Proofs.YtndkhgakfodldaaGreatDoor

namespace Go.Proofs.YtndkhgakfodldaaGreatDoor
set_option maxRecDepth 100000
set_option maxHeartbeats 800000
open Go.RowKit Go.Maps Go.WideMaps
set_option linter.unusedSimpArgs false
set_option linter.unusedVariables false
theorem zpj {W:World} {base:Nat} {t:TypeId} {sz:Nat} {a:OA} {n cap:Nat} {xs:List Value} {ds:List D} (h:W.ownsRow base t sz (.slice a n cap) n xs) (hx:zap W Tt ds xs) (h1:n<=ds.length) (h2:ds.length<=17592186044416):DAt W Tt a n ds:=by
 refine ⟨h1,h2,?_⟩
 rcases h.2 with ⟨e,h0⟩ | ⟨g,cap',cur,e,_,hg,_⟩
 . exact Or.inl h0
 . cases e
   refine Or.inr ⟨g,0,xs,rfl,trivial,lt_of_heap hg,fun j u hj=>?_,hx⟩;have:=h.cells (g:=g) rfl j u hj;rw [show (⟨g,0,none⟩:Addr).add j=⟨g,j,none⟩ from by unfold Addr.add;split<;>simp_all] at this
   rw [vba];exact this
def zfd (n:Int):Prop:=-1000000000000000<=n/\n<=1000000000000000
theorem zlo {W:World} {n:Int} (h:zfd n):zc7 W Tt (.int n) (.int .i64 n):=zdl (z0c h.1 h.2)
theorem zvg {W:World}:∀ (l:List Gi),(∀ i ∈ l,zfd i.op/\zfd i.a/\zfd i.b)->zap W Tt (zv5 l) (zen l)
 | [],_=>zap.nil
 | i :: r,h=>by
   have h1:=h i (var ..);simp only [zv5,zen,vbf];exact zap.append (.cons (zlo h1.1) (.cons (zlo h1.2.1) (.cons (zlo h1.2.2) .nil))) (zvg r (fun j hj=>h j (vai _ hj)))
theorem zvh {W:World}:∀ (l:List Gf),(∀ i ∈ l,zfd i.at_/\zfd i.kind/\zfd i.m)->zap W Tt (z1u l) (z3l l)
 | [],_=>zap.nil
 | i :: r,h=>by
   have h1:=h i (var ..);simp only [z1u,z3l,vbf];exact zap.append (.cons (zlo h1.1) (.cons (zlo h1.2.1) (.cons (zlo h1.2.2) .nil))) (zvh r (fun j hj=>h j (vai _ hj)))
theorem zrg {W:World}:∀ (l:List Int),(∀ i ∈ l,zfd i)->zap W Tt (zfy l) (intV l)
 | [],_=>zap.nil
 | i :: r,h=>.cons (zlo (h i (var ..))) (zrg r (fun j hj=>h j (vai _ hj)))
theorem zrh {W:World}:∀ (l:List ByteArray),(∀ s ∈ l,s.size<=maxLen)->zap W Tt (zaj l) (strV l)
 | [],_=>zap.nil
 | i :: r,h=>.cons (zeu (h i (var ..))) (zrh r (fun j hj=>h j (vai _ hj)))
theorem zvi (l:List Gi):(zv5 l).length=l.length*3:=by
 induction l with
 | nil=>rfl
 | cons x r ih=>simp only [zv5,vbf,vam,vav] at ih ⊢;rw [ih];simp [Gi.ds];omega
theorem zvj (l:List Gf):(z1u l).length=l.length*3:=by
 induction l with
 | nil=>rfl
 | cons x r ih=>simp only [z1u,vbf,vam,vav] at ih ⊢;rw [ih];simp [Gf.ds];omega
theorem z4b (N:Int):∀ (e:List Gf) (lo:Int),lo<=N->e.Pairwise (fun f g=>f.at_<g.at_)->(∀ f ∈ e,lo<=f.at_/\f.at_<N)->(e.length:Int)<=N - lo
 | [],lo,h,_,_=>by simp;omega
 | f :: r,lo,h,hp,hb=>by
   rw [List.pairwise_cons] at hp;have h1:=hb f (var ..);have:=z4b N r (f.at_+1) (by omega) hp.2 (fun g hg=>⟨by have:=hp.1 g hg;omega,(hb g (vai _ hg)).2⟩);rw [vav];omega
theorem z57 {u:Un} {o:Ob} (h:zw5 u = .ok o):o=zpt u/\ze1 u ziy zig=true/\Go.Lib.containsS u.uses u.name=false/\zhh (genS u)=false:=by
 unfold zw5 at h
 split at h
 . cases h
 . rename_i h1
   split at h
   . cases h
   . rename_i h2
     cases h;simp only [vcs,vat] at h1;exact ⟨rfl,by simpa using h1.2,h1.1,by simpa using h2⟩
theorem z0d {u:Un} (h:ze1 u ziy zig=true):(∀ i ∈ (genS u).code,zfd i.op/\zfd i.a/\zfd i.b)/\(∀ f ∈ (genS u).fixes,zfd f.at_/\zfd f.kind/\zfd f.m)/\(∀ x ∈ entsW u.parts,zfd x)/\zfd ((zb1 u.parts).code.length:Int)/\(genS u).fixes.length<=33000:=by
 obtain ⟨ha,_,hl,hs⟩:=z1w h;have hb:=ztz h;have h3:=zin (zb0 h).2.2;obtain ⟨e,he,hp,hr⟩:=ha.fx
 have he':(genS u).fixes=e:=by rw [he];rfl
 subst he';refine ⟨fun i hi=>?_,fun f hf=>?_,fun x hx=>?_,by unfold zfd;omega,?_⟩
 . obtain ⟨k,hk,rfl⟩:=vbl hi
   have:=ha.ins k _ (vag _) (vae hk);unfold inR at this;unfold zfd;omega
 . obtain ⟨k,i,hi,hk,_,hx⟩:=hr f hf
   have:=zd3 hi;unfold zfd
   rcases hx with ⟨h1,h2,_⟩ | ⟨h1,_,_,h4⟩<;>omega
 . rw [zsp,vch] at hx
   obtain ⟨b,hb',e⟩:=hx;have:=hs b hb';unfold zfd;omega
 . have:=z4b ((genS u).code.length:Int) (genS u).fixes 0 (by omega) hp (fun f hf=>by
    obtain ⟨k,i,hi,hk,_,_⟩:=hr f hf;have:=zd3 hi
    omega)
   omega
theorem z58 {W:World} {base:Nat} {t:TypeId} {sz:Nat} {a:OA} {n cap:Nat} {xs:List Value} (h:W.ownsRow base t sz (.slice a n cap) n xs):n<=cap:=by
 obtain ⟨_,_,e,h1,_⟩:=zal h
 cases e
 exact h1
theorem z4c {u:Un} {o:Ob} (hg:zw5 u = .ok o) {x1:OA} {y1:Nat} {x2:OA} {y2:Nat} {x3:OA} {y3:Nat} {w:World} (hU:UvAt w u x1 y1 x2 y2 x3 y3) :
 Calls Tryz.prog 31 #[.agg #[.string u.name,.slice x1 u.uses.length y1,.int .i64 u.data,.slice x2 u.parts.length y2,.slice x3 u.main.length y3]] w fun e w'=>∃ x1 y1 x3 y3 x4 y4 x5 y5,e = .returned (.tuple #[.agg #[.string o.name,.slice x1 o.uses.length y1,.int .i64 o.data,.slice x3 o.code.length y3,.slice x4 o.fixes.length y4,.slice x5 o.entries.length y5,.int .i64 o.main],.int .i64 0])/\OvAt w' o x1 x3 x4 x5/\o.uses.length<=y1/\Below w.heap.size w w':=
 (z49 u x1 y1 x2 y2 x3 y3 w hU).mono fun e w' ⟨h,hb⟩=>by
   obtain ⟨rfl,hh,hc,hf⟩:=z57 hg;unfold zjf at h;rw [hg] at h;obtain ⟨ua,uc,ca,cc,fa,fc,ea,ec,he,h1,h2,h3,h4⟩:=h;obtain ⟨s1,s2,s3,s4,s5⟩:=z0d hh;have hd:=ziv (zb0 hh).2.2;have hu:=zin (zb0 hh).2.2;have h6:=zid (zb0 hh).2.2;have hel:(zpt u).entries.length=u.parts.length:=zdp ..;have hcl:=ztz hh;refine ⟨ua,uc,ca,cc,fa,fc,ea,ec,he,⟨hU.wn,?_,z0c (by show _<=u.data;omega) (by show u.data<=_;omega),?_,?_,?_,z0c s4.1 s4.2⟩,z58 h1,hb⟩
   . exact zpj h1 (zrh _ (zel hU.uses).2) (by simp [zaj]) (by show (zaj u.uses).length<=_;simp [zaj];omega)
   . exact zpj h2 (zvg _ s1) (by rw [zvi];omega) (by rw [zvi];show (genS u).code.length*3<=_;omega)
   . exact zpj h3 (zvh _ s2) (by rw [zvj];omega) (by rw [zvj];show (genS u).fixes.length*3<=_;omega)
   . exact zpj h4 (zrg _ s3) (by simp [zfy]) (by rw [show (zfy (zpt u).entries).length=(zpt u).entries.length from by simp [zfy],hel];omega)
end Go.Proofs.YtndkhgakfodldaaGreatDoor

namespace Go.Proofs.YtndkhgakfodldaaGreatDoor
set_option maxRecDepth 100000
set_option maxHeartbeats 6400000
open Go.RowKit Go.Shelf
set_option linter.unusedSimpArgs false
set_option linter.unusedVariables false
section
variable {P:Program} {ops:Array Oper} {o:Oper} {a:Act} {w:World} {K:Act->World->Prop} {Q:Exit->Act->World->Prop} {E:Prop}
theorem run_callN (f:FuncId) (xs:Array Operand) (tys:Array TypeId) (ho:o.op = .call { callee:=.value (.func f),args:=xs,argTypes:=tys })
 (hen:Enters P f) (vs:Array Value) (hx:xs.map a.eval=vs):(execOp a.eval o).run P w = .ok (.enter f vs) w:=by
 have h:=hen vs w;have hf:a.eval (.func f) = .func (.func f) #[] #[]:=rfl;simp [execOp,ho,resolve,invoke,hx,hf,h,Deferred.ofValue]
end
set_option maxHeartbeats 1600000
set_option maxHeartbeats 6400000
theorem DAt.lower {w:World} {a:OA} {n:Nat} {ds:List D} (h:DAt w Tt a n ds):DAt w (·<w.heap.size) a n ds:=h.moves ⟨vaa _,fun b hb _=>⟨hb,rfl⟩⟩
end Go.Proofs.YtndkhgakfodldaaGreatDoor
