import Derived.Deep.DeepCutAuto
import Derived.Test.YtndkhgakfodldaaGreatDoorYa
import Derived.Test.YtndkhgakfodldaaGreatDoorBb
import Derived.Test.YtndkhgakfodldaaGreatDoorBc
namespace Go.Proofs.YtndkhgakfodldaaGreatDoor
set_option maxRecDepth 100000
set_option maxHeartbeats 8000000
open Go.RowKit Go.Maps Go.WideMaps
set_option linter.unusedSimpArgs false
theorem zk2 {ops:Array Oper} {o:Oper} {a:Act} {K:Act->World->Prop} {Q:Exit->Act->World->Prop} {E:Prop} {w:World} (hgd:o.guard=none) (s x:Operand)
 (ho:o.op = .call { callee:=.builtin .append,args:=#[s,x],argTypes:=#[22,22] }) (us:List ByteArray) (b:OA) (c:Nat) (hs:a.eval s = .slice none 0 0) (hx:a.eval x = .slice b us.length c) (hS:Fx.zft w b us) (hlen:us.length<=10000)
 (h:∀ v' w',w'.ownsRow w.heap.size 9 1 v' us.length (strV us)->Below w.heap.size w w'->K (a.put o.dst v') w') :
 if Region.wanted o (yielded ops a.tmps)=true then Oper.wp Tryz.prog o a w K Q else E:=by
 have hw:Region.wanted o (yielded ops a.tmps)=true:=by simp [Region.wanted,hgd]
 rw [if_pos hw];obtain ⟨v',w',hr,h2,h3⟩:=zck w.heap.size o.type (.slice none 0 0) 0 [] (ves _ _ _ _) us b c hS (by omega) (vaa _);refine Lib.wp_append_run w s x _ _ ho _ _ hs hx v' w' hr (h v' w' (by simpa using h2) ?_);exact (Below.refl w.heap.size w).grown h3 (vaa _) (fun k hk=>by simp [Value.ownBlock] at hk)
theorem Tryz.infoPart:(Tryz.prog.info? 106).map (fun i=>(i.zero,i.size,i.bytes))=some (some (.agg #[.int .i64 0,.int .i64 0,.slice none 0 0]),3,40):=by kernel_rfl
theorem z4m {A:Nat->Prop} {t:Pt} {w:World} {a:OA} {cap:Nat} (h:EAt w A a t.body.length (zew t.body)):za1 w A t.ds [.int .i64 t.params,.int .i64 t.locals,.slice a t.body.length cap]:=.cons zrk (.cons zrk (.cons h.val .nil))
theorem z1f (l:List Pt) (x:Pt):zmq (l++[x])=zmq l++x.ds:=by simp [zmq]
theorem zwt {w:World} {b:Nat} {x0 x1 x2 x3 x4:Value} {t:TypeId} (h:w.heap[b]? = some (.cells #[x0,x1,x2,x3,x4] t (0,0))):w.cell? ⟨b,0,none⟩=some x0/\w.cell? ⟨b,1,none⟩=some x1/\w.cell? ⟨b,2,none⟩=some x2/\w.cell? ⟨b,3,none⟩=some x3/\w.cell? ⟨b,4,none⟩=some x4/\(∀ i,w.frozen? ⟨b,i,none⟩=false)/\b<w.heap.size:=by
 obtain ⟨h0,h1,h2,h3,h4,h5⟩:=zad h;exact ⟨h0,h1,h2,h3,h4,h5,zab h⟩
theorem zmz {W:World} {b:Nat} {x0 x1:Value} (hb:b<W.heap.size) (h:W.cell? ⟨b,0,none⟩=some x0/\W.cell? ⟨b,1,none⟩=some x1) (o:Obj):(W.alloc o).cell? ⟨b,0,none⟩=some x0/\(W.alloc o).cell? ⟨b,1,none⟩=some x1:=
 ⟨((al1 W o).cell (p:=⟨b,0,none⟩) hb).trans h.1,((al1 W o).cell (p:=⟨b,1,none⟩) hb).trans h.2⟩
theorem zx9 {W:World} {b:Nat} {x0 x1:Value} (hb:b<W.heap.size) (h:W.cell? ⟨b,0,none⟩=some x0/\W.cell? ⟨b,1,none⟩=some x1) (o:Obj):(W.alloc o).drew.cell? ⟨b,0,none⟩=some x0/\(W.alloc o).drew.cell? ⟨b,1,none⟩=some x1:=zmz hb h o
theorem z66 {W:World} {b c:Nat} {x0 x1:Value} (hn:b≠c) (h:W.cell? ⟨b,0,none⟩=some x0/\W.cell? ⟨b,1,none⟩=some x1) (u0 u1 u2 u3 u4:Value) :
 (((((W.setCell ⟨c,0,none⟩ u0).setCell ⟨c,1,none⟩ u1).setCell ⟨c,2,none⟩ u2).setCell ⟨c,3,none⟩ u3).setCell ⟨c,4,none⟩ u4).cell? ⟨b,0,none⟩=some x0/\(((((W.setCell ⟨c,0,none⟩ u0).setCell ⟨c,1,none⟩ u1).setCell ⟨c,2,none⟩ u2).setCell ⟨c,3,none⟩ u3).setCell ⟨c,4,none⟩ u4).cell? ⟨b,1,none⟩=some x1:=by
 have e:(((((W.setCell ⟨c,0,none⟩ u0).setCell ⟨c,1,none⟩ u1).setCell ⟨c,2,none⟩ u2).setCell ⟨c,3,none⟩ u3).setCell ⟨c,4,none⟩ u4).heap[b]? = W.heap[b]?:=(zac hn _).trans ((zac hn _).trans ((zac hn _).trans ((zac hn _).trans (zac hn _))));exact ⟨(vet (w:=W) (a:=⟨b,0,none⟩) e).trans h.1,(vet (w:=W) (a:=⟨b,1,none⟩) e).trans h.2⟩
theorem bdrew (w:World):Below w.heap.size w w.drew:=(Below.refl _ _).drew
theorem za7 (w:World) (o:Obj):Below w.heap.size w (w.alloc o).drew:=((Below.refl _ w).alloc (vaa _) o).drew
theorem zya {w wu:World} {x0 x1 x2 x3 x4:Value} {t:TypeId} (hb:Below (w.alloc (.cells #[x0,x1,x2,x3,x4] t)).drew.heap.size (w.alloc (.cells #[x0,x1,x2,x3,x4] t)).drew wu) :
 wu.cell? ⟨w.heap.size,0,none⟩=some x0/\wu.cell? ⟨w.heap.size,1,none⟩=some x1/\wu.cell? ⟨w.heap.size,2,none⟩=some x2/\wu.cell? ⟨w.heap.size,3,none⟩=some x3/\wu.cell? ⟨w.heap.size,4,none⟩=some x4/\(∀ i,wu.frozen? ⟨w.heap.size,i,none⟩=false)/\w.heap.size<wu.heap.size:=by
 have h:wu.heap[w.heap.size]? = some (.cells #[x0,x1,x2,x3,x4] t):=(hb.block w.heap.size (by show w.heap.size<(w.alloc _).heap.size;simp)).trans (heap_newP w _);obtain ⟨h0,h1,h2,h3,h4,h5⟩:=zad h;exact ⟨h0,h1,h2,h3,h4,h5,zab h⟩
theorem zpc {A:Nat->Prop} {w:World}:∀ (l:List ByteArray),(∀ s ∈ l,s.size<=maxLen)->za1 w A (zao l) (strV l)
 | [],_=>.nil
 | s :: r,h=>.cons (zyl (h s (by simp))) (zpc r fun x hx=>h x (by simp [hx]))
theorem z4n {w:World} {B:Nat} {v:Value} {l:List ByteArray} (h:w.ownsRow B 9 1 v l.length (strV l)) (hs:∀ s ∈ l,s.size<=maxLen):∀ a cap,v = .slice a l.length cap->EAt w (B<=·) a l.length (zao l):=by
 rintro a cap rfl;exact EAt.of_own h (fun _ h=>h) (zpc l hs)
theorem z4o (m:Mo) (v:Value) (a1:OA) (c1:Nat) (a2:OA) (c2:Nat) (a3:OA) (c3:Nat) (a4:OA) (c4:Nat) (l:List Fc) (al:OA) (cl:Nat) (w:World) (hM:MoAt w Tt m v a1 c1 a2 c2 a3 c3 a4 c4) (he:m.err=0) (hF:DAt w Tt al l.length (z63 l)) (hl3:l.length<=3) (h16:∀ f ∈ l,f.items.length<=16) :
 Calls Tryz.prog 64 #[v,.slice al l.length cl] w fun e w'=>z1e w.heap.size (zk1 m l) e w'/\Below w.heap.size w w':=by
 obtain rfl:=hM.val;have HM:=hid hM;have HLy:=z07 he;have HPa:=hid (zga he);have HFs:=hid hF;have H16:=hid h16;have HC:=hid (zkd m _ a1 c1 a2 c2 a3 c3 a4 c4 ((w.alloc (.cells #[.string m.name,.slice a1 m.uses.length c1,.slice a2 m.decls.length c2,.slice a3 m.procs.length c3,.slice a4 m.main.length c4] 27)).alloc (.cells #[.string ⟨#[]⟩,.slice none 0 0,.int .i64 0,.slice none 0 0,.slice none 0 0] 42)) (hM.later (bl2 _ _ _)) HLy)
 have HIl:Hid ((zbe m).length<=16):=by have h1:=HLy.decls;have h2:=HLy.procs;show (zbe m).length<=16;rw [zhb];omega
 have hd10:=HLy.decls;have hp6:=HLy.procs;clear hM hF h16 he HLy;go_enter Tryz.func64,Tryz.ntmps64;go_wp2_with fail;refine HC.out.mono ?_;rintro e w1 ⟨⟨ai,ci,rfl,hit⟩,hb1⟩;have HB1:=hid (thenB (bl2 w _ _) hb1);have hz1:=hb1.size;simp at hz1;have P0:=hid ((hb1.block w.heap.size (by simp;omega)).trans (zae (heap_newP w _)));have P1:Hid (w1.heap[w.heap.size+1]? = some (.cells #[.string ⟨#[]⟩,.slice none 0 0,.int .i64 0,.slice none 0 0,.slice none 0 0] 42)):=(hb1.block (w.heap.size+1) (by simp)).trans (by simpa using heap_newP (w.alloc _) _);obtain ⟨HI,HF⟩:=zq3 hit;have HIt:=hid HI;have HFi:=hid HF;have hmm:=@run_makeMap Tryz.prog;have HKm0:=hid ((znf.made w1).later (al1 _ (.cells #[.map (some w1.heap.size)] 189)));have HIb:=hid (zmy HI (R:=w1.heap.size) (vaa _));have HC2:=hid (zl2 (fun _ _=>none) w1.heap.size 0 ⟨#[]⟩ 0 (zbe m) ai ci ((w1.alloc (.map #[] 0)).alloc (.cells #[.map (some w1.heap.size)] 189)) HKm0.out (vae _) (HI.later (bl2 _ _ _)) HF (by have:=HIl.out;omega) (by omega) HIb.out)
 clear hb1 hit HI HF HC;go_wp2_with fail;refine HC2.out.mono ?_;rintro e w2 ⟨rfl,hkm,hke⟩
 have HKm:Hid (znf w2 w1.heap.size (zbe m).length (z64 m)):=by have:=hkm;rw [vbq] at this;exact this
 have HE:=hid hke;clear hkm hke HC2 hmm HKm0;go_wp2_with fail
 go_loopw [9,10,30] (fun _ _ i wr=>∃ (j n:Nat),j<=l.length/\i = .int .i64 j/\n<=16+16*j/\znf wr w1.heap.size n (zjj (z64 m) (l.take j))/\Keeps w1.heap.size ((w1.alloc (.map #[] 0)).alloc (.cells #[.map (some w1.heap.size)] 189)) wr) (fun _ _ i _=>l.length - (intOf i).toNat)
 case atStart=>exact ⟨0,_,vae _,rfl,by have:=HIl.out;omega,HKm.out,HE.out⟩
 case round =>
  clear HKm HE;obtain ⟨j,n,hj,rfl,hn,hkm,hke⟩:=hrel;have HKm:=hid hkm;have HE:=hid hke;have hzr:=hke.size;simp at hzr;have nb:wr.heap[w1.heap.size+1]? = some (.cells #[.map (some w1.heap.size)] 189):=(hke.block _ (by simp) (by omega)).trans (by simpa using heap_newP (w1.alloc (.map #[] 0)) (.cells #[.map (some w1.heap.size)] 189));have HNb:=hid nb
  have k0:wr.cell? ⟨w1.heap.size+1,0,none⟩=some (.map (some w1.heap.size)):=by rw [veq nb];rfl
  have hnl:=zab nb;have HBr:Hid (Below w.heap.size w wr):=Keeps.below (thenB HB1.out (bl2 _ _ _)) HE.out (by omega) (by simp;omega);clear hkm hke nb
  by_cases hlt:j<l.length
  . obtain ⟨b,off,aj,cj,rfl,hbl,x0,x1,hnm,hdj⟩:=(HFs.out.later HBr.out).fc j hlt
    obtain ⟨b',off',aj',cj',hal,hbl0,_,x1',_,hdj0⟩:=HFs.out.fc j hlt
    have hjj:aj'=aj:=by
     have e0:=vac hal
     injection e0 with e1 e2
     subst e1 e2;have:=(HBr.out.cell (p:=⟨b,off+j*2+1,none⟩) hbl0).trans x1';rw [this] at x1;have:=vac x1;injection this
    subst hjj;obtain ⟨HIj,HFj⟩:=zmx hdj;have hib:=zmy (zmx hdj0).1 (R:=w1.heap.size) (by omega);have h16j:=H16.out l[j] (vap _)
    have HSn:Hid (zj5 (zjj (z64 m) (l.take j)) l[j].name ((j:Int)+1) l[j].items=zjj (z64 m) (l.take (j+1))):=by
     show _=zjj (z64 m) (l.take (j+1));rw [vag hlt,zuw,vbb,vdw (by omega)]
    have hwr:IntKind.i64.wrap ((j:Int)+1)=(j:Int)+1:=by simp only [IntKind.wrap,IntKind.bits,IntKind.signed];simp;omega
    clear hal hbl0 x1' hdj hdj0;generalize l[j]=f at *;have HC3:=hid (zl2 (zjj (z64 m) (l.take j)) w1.heap.size n f.name ((j:Int)+1) f.items aj' cj (wr.alloc (.cells #[.string f.name,.slice aj' f.items.length cj] 30)) (HKm.out.later (al1 _ _)) hnm (HIj.later (al1 _ _)) HFj (by omega) (by omega) hib);clear hnm HIj HFj hib;go_wp2_with fail;refine HC3.out.mono ?_;rintro e w3 ⟨rfl,hkm3,hke3⟩;rw [HSn.out] at hkm3;have HKm3:=hid hkm3;have HE3:=hid ((HE.out.alloc (.cells #[.string f.name,.slice aj' f.items.length cj] 30)).trans hke3);clear hkm3 hke3 HC3;go_wp2_with fail;go_roundw
    case rel=>exact ⟨j+1,n+f.items.length,by omega,by go_num,by omega,HKm3.out,HE3.out⟩
    case measure=>simp [intOf];omega
  . obtain rfl:j=l.length:=by omega
    have HKf:Hid (zn0 wr (.map (some w1.heap.size)) (ze4 m l)):=by have:=HKm.out.known;rw [vaz] at this;exact this
    have Q0:Hid (wr.heap[w.heap.size]? = some (.cells #[.string m.name,.slice a1 m.uses.length c1,.slice a2 m.decls.length c2,.slice a3 m.procs.length c3,.slice a4 m.main.length c4] 27)):=(HE.out.block _ (by simp;omega) (by omega)).trans (zae (zae P0.out));have Q1:Hid (wr.heap[w.heap.size+1]? = some (.cells #[.string ⟨#[]⟩,.slice none 0 0,.int .i64 0,.slice none 0 0,.slice none 0 0] 42)):=(HE.out.block _ (by simp;omega) (by omega)).trans (zae (zae P1.out));have HUs:=hid (fun W (hW:Below wr.heap.size wr W)=>((zef HM.out.uses).1.later (thenB HBr.out hW)));obtain ⟨x0,x1,x2,x3,x4,xf⟩:=zad Q0.out;have hl0:=zab Q0.out;have hu3:=HPa.out.1;have HSz:=hid (zef HM.out.uses).2;have HBx:=hid (fun W (hW:Below wr.heap.size wr W)=>zwt ((hW.block _ hl0).trans Q0.out));clear HKm HE k0;go_wp2_with fail
    obtain ⟨wL,hwL⟩:∃ x,x=wr:=⟨_,rfl⟩
    subst hwL
    go_cut [11] (fun v wc=>∃ (U:Nat) (au:OA) (cu:Nat),v = .pointer (some ⟨U,0,none⟩)/\wL.heap.size<=U/\Hid (Below wL.heap.size wL wc)/\Hid (wc.heap[U]? = some (.cells #[.string m.name,.slice au m.uses.length cu,.int .i64 (zch m),.slice none 0 0,.slice none 0 0] 42))/\Hid (EAt wc (fun b=>wL.heap.size<=b/\b≠U) au m.uses.length (zao m.uses)))
    case first=>
     have hne1:w.heap.size≠wL.heap.size:=by omega
     have FF0:Hid (wL.cell? ⟨w.heap.size,0,none⟩=some (.string m.name)/\wL.cell? ⟨w.heap.size,1,none⟩=some (.slice a1 m.uses.length c1)):=⟨x0,x1⟩
     have FF:Hid (wL.drew.cell? ⟨w.heap.size,0,none⟩=some (.string m.name)/\wL.drew.cell? ⟨w.heap.size,1,none⟩=some (.slice a1 m.uses.length c1)):=⟨x0,x1⟩
     go_region_held_law (fun W=>W.cell? ⟨w.heap.size,0,none⟩=some (.string m.name)/\W.cell? ⟨w.heap.size,1,none⟩=some (.slice a1 m.uses.length c1)) (first | with_reducible exact FF.out | with_reducible exact zmz hfl FF.out _ | with_reducible exact zx9 hl0 FF0.out _ | with_reducible exact zmz hl0 FF0.out _ | with_reducible exact z66 hne1 FF.out _ _ _ _ _)
      (first | (refine zk2 rfl _ _ rfl m.uses a1 c1 rfl rfl (HUs.out _ (by first | exact bdrew wL | exact za7 wL _)) (by omega) ?_;intro vu wu hou hbu;have HEu:=hid (z4n hou HSz.out);obtain ⟨au,cu,rfl,_⟩:=zjh hou;clear hou;(first | (refine And.elim ?_ (zya hbu);intro e0 hcs;obtain ⟨e1,e2,e3,e4,ef,hel⟩:=hcs;refine And.elim ?_ (HBx.out wu (thenB (za7 wL _) hbu));intro f0 fr;obtain ⟨f1,f2,f3,f4,ff,hfl⟩:=fr;have HBu:=hid (thenB (za7 wL _) hbu);have FF:=hid (And.intro f0 f1)) | (refine And.elim ?_ (HBx.out wu (thenB (bdrew wL) hbu));intro f0 fr;obtain ⟨f1,f2,f3,f4,ff,hfl⟩:=fr;have HBu:=hid (thenB (bdrew wL) hbu);have FF:=hid (And.intro f0 f1)))))
     . have HW:Hid (Below wL.heap.size wL (wu.alloc (.cells #[.string m.name,.slice au m.uses.length cu,.int .i64 (zch m),.slice none 0 0,.slice none 0 0] 42))):=thenB HBu.out (al1 _ _)
       have HU:Hid ((wu.alloc (.cells #[.string m.name,.slice au m.uses.length cu,.int .i64 (zch m),.slice none 0 0,.slice none 0 0] 42)).heap[wu.heap.size]? = some (.cells #[.string m.name,.slice au m.uses.length cu,.int .i64 (zch m),.slice none 0 0,.slice none 0 0] 42)):=heap_newP _ _;have HA:Hid (EAt (wu.alloc (.cells #[.string m.name,.slice au m.uses.length cu,.int .i64 (zch m),.slice none 0 0,.slice none 0 0] 42)) (fun b=>wL.heap.size<=b/\b≠wu.heap.size) au m.uses.length (zao m.uses)):=(HEu.out au cu rfl).moves ⟨by simp,fun b hb h=>⟨⟨h,by omega⟩,(al1 _ _).block b hb⟩⟩;have hU:wL.heap.size<=wu.heap.size:=HBu.out.size;go_wp2_with fail;go_meet;exact ⟨_,au,cu,rfl,hU,HW,HU,HA⟩
     . have HW:Hid (Below wL.heap.size wL (((((wu.setCell ⟨wL.heap.size,0,none⟩ (.string m.name)).setCell ⟨wL.heap.size,1,none⟩ (.slice au m.uses.length cu)).setCell ⟨wL.heap.size,2,none⟩ (.int .i64 (zch m))).setCell ⟨wL.heap.size,3,none⟩ (.slice none 0 0)).setCell ⟨wL.heap.size,4,none⟩ (.slice none 0 0))):=zer HBu.out (vaa _) _ _ _ _ _
       have HU:Hid ((((((wu.setCell ⟨wL.heap.size,0,none⟩ (.string m.name)).setCell ⟨wL.heap.size,1,none⟩ (.slice au m.uses.length cu)).setCell ⟨wL.heap.size,2,none⟩ (.int .i64 (zch m))).setCell ⟨wL.heap.size,3,none⟩ (.slice none 0 0)).setCell ⟨wL.heap.size,4,none⟩ (.slice none 0 0)).heap[wL.heap.size]? = some (.cells #[.string m.name,.slice au m.uses.length cu,.int .i64 (zch m),.slice none 0 0,.slice none 0 0] 42)):=zag (zag (zag (zag (zag ((hbu.block wL.heap.size (by show wL.heap.size<(wL.alloc _).heap.size;simp)).trans (heap_newP wL _)) _) _) _) _) _;have HA:Hid (EAt (((((wu.setCell ⟨wL.heap.size,0,none⟩ (.string m.name)).setCell ⟨wL.heap.size,1,none⟩ (.slice au m.uses.length cu)).setCell ⟨wL.heap.size,2,none⟩ (.int .i64 (zch m))).setCell ⟨wL.heap.size,3,none⟩ (.slice none 0 0)).setCell ⟨wL.heap.size,4,none⟩ (.slice none 0 0)) (fun b=>wL.heap.size<=b/\b≠wL.heap.size) au m.uses.length (zao m.uses)):=((HEu.out au cu rfl).moves ⟨vaa _,fun b hb h=>⟨(⟨by have:(wL.alloc _).heap.size<=b:=h;simp at this;omega,by have:(wL.alloc _).heap.size<=b:=h;simp at this;omega⟩:wL.heap.size<=b/\b≠wL.heap.size),rfl⟩⟩:EAt wu (fun b=>wL.heap.size<=b/\b≠wL.heap.size) au m.uses.length (zao m.uses)).moves ((zai.refl wu (fun b=>wL.heap.size<=b/\b≠wL.heap.size)).set5 (by intro k _ hk;exact hk.2) _ _ _ _ _)
       have hU:wL.heap.size<=wL.heap.size:=vaa _;go_wp2_with fail;go_meet;exact ⟨_,au,cu,rfl,hU,HW,HU,HA⟩
    case rest=>
     obtain ⟨U,au,cu,rfl,hU,HW,HU,HA⟩:=hcut;have hUl:=zab HU.out;have T0:=hid ((HW.out.block _ hl0).trans Q0.out);have T1:=hid ((HW.out.block _ (zab Q1.out)).trans Q1.out);have T2:=hid ((HW.out.block _ hnl).trans HNb.out);have hl1:=zab Q1.out;clear x0 x1 x2 x3 x4 xf;generalize wc=W3 at *;obtain ⟨x0,x1,x2,x3,x4,xf⟩:=zad T0.out;have hlT0:=zab T0.out;have hlT1:=zab T1.out;have hlT2:=zab T2.out;have hz3:=HW.out.size;go_wp2_with fail;clear x0 x1 x2 x3 x4 xf
     go_loopw [13,14,15,54] (fun _ _ _ i wt=>∃ (j:Nat) (acc:List Pt) (vp:Value),j<=m.procs.length/\i = .int .i64 j/\acc.length=j/\zct (ze4 m l) (m.procs.take j) = .ok acc/\wt.heap[U]? = some (.cells #[.string m.name,.slice au m.uses.length cu,.int .i64 (zch m),vp,.slice none 0 0] 42)/\Row W3.heap.size 106 3 wt vp acc.length (zmq acc)/\Keeps U W3 wt) (fun _ _ _ i _=>m.procs.length - (intOf i).toNat)
     case atStart=>exact ⟨0,[],.slice none 0 0,vae _,rfl,rfl,rfl,HU.out,Row.nil _ _ _ _,Keeps.refl _ _⟩
     case round=>
      clear HU;obtain ⟨j,acc,vp,hj,rfl,hacc,hpm,hub,hrow,hke⟩:=hrel;have HPm:=hid hpm;have HUb:=hid hub;have HRo:=hid hrow;have HKe:=hid hke;have hzt:=hke.size;have hUt:=zab hub;have R0:=hid ((hke.block _ hlT0 (by omega)).trans T0.out);have R1:=hid ((hke.block _ hlT1 (by omega)).trans T1.out);have R2:=hid ((hke.block _ hlT2 (by omega)).trans T2.out);have HBL:Hid (Below wL.heap.size wL wr):=Keeps.below HW.out hke hU (by omega);have HBw:=hid (thenB HBr.out HBL.out);have HKt:=hid (HKf.out.later HBL.out);obtain ⟨x0,x1,x2,x3,x4,xf⟩:=zad R0.out
      have n0:wr.cell? ⟨w1.heap.size+1,0,none⟩=some (.map (some w1.heap.size)):=by rw [veq R2.out];rfl
      have hlR0:=zab R0.out;have hlR1:=zab R1.out;have hlR2:=zab R2.out;clear hpm hub hrow hke
      by_cases hlt:j<m.procs.length
      . obtain ⟨b,off,q1,d1,q2,d2,q3,d3,rfl,hx⟩:=(HM.out.procs.later HBw.out).pr j hlt
        obtain ⟨hbl,g0,g1,g2,g3,g4,hq1,hq2,hq3,hnm⟩:=hx;obtain ⟨hpp,hpl,hpb⟩:=HPa.out.2.2.2.1 m.procs[j] (vap _);have HErr:=hid (fun c (he:zmw (ze4 m l) m.procs[j] = .error c)=>zx8 (zx7 hlt HPm.out he));have HOk:=hid (fun y (he:zmw (ze4 m l) m.procs[j] = .ok y)=>zux hlt HPm.out he);generalize m.procs[j]=p at *;have HC4:=hid (z4l (ze4 m l) w1.heap.size p q1 d1 q2 d2 q3 d3 (wr.alloc (.cells #[.string p.name,.bool p.pub,.slice q1 p.params.length d1,.slice q2 p.locals.length d2,.slice q3 p.body.length d3] 118)) (HKt.out.later (al1 _ _)) (hq1.later (al1 _ _)) (hq2.later (al1 _ _)) (hq3.later (al1 _ _)) hpp hpl hpb);clear hq1 hq2 hq3 hpp hpl hpb hnm x0 x1 x2 x3 x4 xf;go_wp2_with fail;refine HC4.out.mono ?_;rintro e w4 ⟨hend,hb4⟩;have HB4:=hid (thenB (al1 wr _) hb4);have hz4:=hb4.size;simp at hz4;clear hb4 HC4 n0 g0 g1 g2 g3 g4
        cases hr:zmw (ze4 m l) p with
        | error c=>
          rw [hr] at hend;obtain ⟨px,py,pa,pk,pc,rfl,hne⟩:=hend;have HR:=hid (HErr.out c hr);have v1:=(HB4.out.block _ hlR1).trans R1.out;have hlr:=zab v1;obtain ⟨r0,r1,r2,r3,r4,rf⟩:=zad v1;clear hr v1;go_wp2_with fail;refine bodyPost_ret (v:=.tuple #[.agg #[.string ⟨#[]⟩,.slice none 0 0,.int .i64 0,.slice none 0 0,.slice none 0 0],.int .i64 c]) (by simp [results,Tryz.results64,go_sem,r0,r1,r2,r3,r4,hlr]) rfl ⟨by rw [HR.out];exact ⟨rfl,hne⟩,?_⟩;exact (zer (thenB HBw.out HB4.out) (by omega) _ _ _ _ _).alloc (by simp;omega) _
        | ok t=>
          rw [hr] at hend;obtain ⟨pa,pc,rfl,hea⟩:=hend;have HR:=hid (HOk.out t hr);have HUb4:=hid ((HB4.out.block _ hUt).trans HUb.out);have HRo4:Hid (Row W3.heap.size 106 3 (w4.alloc (.cells #[.int .i64 t.params,.int .i64 t.locals,.slice pa t.body.length pc] 106)) vp acc.length (zmq acc)):=(HRo.out.later HB4.out).alloc _;have HE4:Hid (za1 (w4.alloc (.cells #[.int .i64 t.params,.int .i64 t.locals,.slice pa t.body.length pc] 106)) (wr.heap.size+1<=·) t.ds [.int .i64 t.params,.int .i64 t.locals,.slice pa t.body.length pc]):=z4m (hea.moves (((zai.refl w4 _).alloc _).trans ⟨vaa _,fun b _ h=>⟨by simp at h;exact h,rfl⟩⟩));have HLt:=hid (fun k hk=>(HRo.out.lt k hk).2);obtain ⟨o0,o1,o2,o3,o4,of⟩:=zad HUb4.out;have hUl4:=zab HUb4.out;have HKe4:=hid (((HKe.out.later HB4.out)).alloc (.cells #[.int .i64 t.params,.int .i64 t.locals,.slice pa t.body.length pc] 106))
          clear hr hea
          go_wp2_with (at_builtin;refine zb3 rfl (.tmp 69) (.tmp 71) 39 rfl W3.heap.size 106 _ 3 40 Tryz.underlying39 Tryz.infoPart rfl (by decide) (w4.alloc (.cells #[.int .i64 t.params,.int .i64 t.locals,.slice pa t.body.length pc] 106)) vp acc.length (zmq acc) t.ds rfl HRo4.out #[.int .i64 t.params,.int .i64 t.locals,.slice pa t.body.length pc] _ (by simp) rfl rfl (wr.heap.size+1<=·) HE4.out ?_ (by omega) (by decide) (by simp;omega) ?_)
          . intro b _ hb
            have hb':wr.heap.size+1<=b:=hb;exact ⟨by omega,fun h=>by have:=HLt.out b h;omega⟩
          . intro g5 c5 w5 HO5 HB5 hz5
            have HKe5:=hid (HKe4.out.belowOf HB5);have HUb5:=hid ((HB5.block _ (by omega)).trans (zae HUb4.out));have HO5':=hid (HO5.set (p:=⟨U,3,none⟩) (by show U<W3.heap.size;omega) (.slice (some ⟨g5,0,none⟩) (j+1) c5));have HUb6:Hid ((w5.setCell ⟨U,3,none⟩ (.slice (some ⟨g5,0,none⟩) (j+1) c5)).heap[U]? = some (.cells #[.string m.name,.slice au m.uses.length cu,.int .i64 (zch m),.slice (some ⟨g5,0,none⟩) (j+1) c5,.slice none 0 0] 42)):=zag HUb5.out _;have HKe6:=hid (HKe5.out.own 3 (.slice (some ⟨g5,0,none⟩) (j+1) c5));obtain ⟨s0,s1,s2,s3,s4,sf⟩:=zad HUb5.out;have hUl5:=zab HUb5.out;clear HO5 HB5 HRo4 HE4 o0 o1 o2 o3 o4 of HKe5 HKe4;go_wp2_with fail;go_roundw
            case rel=>exact ⟨j+1,acc++[t],_,by omega,by go_num,by simp [hacc],HR.out,HUb6.out,by rw [z1f,vab,hacc];exact HO5'.out,HKe6.out⟩
            case measure=>simp [intOf];omega
      . obtain rfl:j=m.procs.length:=by omega
        have HPf:Hid (zct (ze4 m l) m.procs = .ok acc):=by have:=HPm.out;rw [vaz] at this;exact this
        have HC5:=hid (zlh 6 m.main HPa.out.2.2.2.2 (ze4 m l) (fun _=>none) (.map (some w1.heap.size)) (.map none) Tt a4 c4 wr HKt.out (zx6 wr) (HM.out.main.later HBw.out));go_wp2_with fail;refine HC5.out.mono ?_;rintro e w4 ⟨hend,hb4⟩;have HB4:=hid hb4;have hz4:=hb4.size;have v1:=(hb4.block _ hlR1).trans R1.out;have hlr:=zab v1;obtain ⟨r0,r1,r2,r3,r4,rf⟩:=zad v1;have HUb4:=hid ((hb4.block _ hUt).trans HUb.out);clear hb4 HC5 v1 n0 x0 x1 x2 x3 x4 xf
        cases hr:zgo (ze4 m l) (fun _=>none) m.main with
        | error c=>
          rw [hr] at hend;obtain ⟨rfl,hne⟩:=hend;have HR:=hid (z1d HPf.out hr);clear hr;go_wp2_with fail;refine bodyPost_ret (v:=.tuple #[.agg #[.string ⟨#[]⟩,.slice none 0 0,.int .i64 0,.slice none 0 0,.slice none 0 0],.int .i64 c]) (by simp [results,Tryz.results64,go_sem,r0,r1,r2,r3,r4,hlr]) rfl ⟨by rw [HR.out];exact ⟨rfl,hne⟩,?_⟩;exact zer (thenB HBw.out HB4.out) (by omega) _ _ _ _ _
        | ok bd=>
          rw [hr] at hend;obtain ⟨ab,cb,rfl,hea⟩:=hend;have HR:=hid (z65 HPf.out hr);obtain ⟨ap,cp,rfl,hep⟩:=HRo.out.slice;obtain ⟨o0,o1,o2,o3,o4,of⟩:=zad HUb4.out;have hUl4:=zab HUb4.out
          have hUn:U≠w.heap.size+1:=by omega
          have HMv:Hid (∀ u v0 v1 v2 v3 v4,∀ A:Nat->Prop,(∀ b,A b->w.heap.size+2<=b/\b≠U)->zai w4 A (set5 (w4.setCell ⟨U,4,none⟩ u) (w.heap.size+1) v0 v1 v2 v3 v4) (w.heap.size<=·)):=fun u v0 v1 v2 v3 v4 A hA=>
           (((zai.refl w4 A).set (p:=⟨U,4,none⟩) (fun b _ hb=>(hA b hb).2) u).set5 (b:=w.heap.size+1) (fun b _ hb=>by have:=(hA b hb).1;omega) v0 v1 v2 v3 v4).trans ⟨vaa _,fun b _ h=>⟨by have:=(hA b h).1;show w.heap.size<=b;omega,rfl⟩⟩
          have HA4:Hid (EAt w4 (fun b=>wL.heap.size<=b/\b≠U) au m.uses.length (zao m.uses)):=(HA.out.moves ((zai.refl W3 _).keeps HKe.out (fun b _ h=>h.2))).later HB4.out;have HP4:Hid (EAt w4 (W3.heap.size<=·) ap acc.length (zmq acc)):=hep.later HB4.out;have HM4:Hid (EAt w4 (wr.heap.size<=·) ab bd.length (zew bd)):=hea;have hzw:=HBr.out.size;clear hr hea hep HRo;go_wp2_with fail;refine bodyPost_ret (v:=.tuple #[.agg #[.string m.name,.slice au m.uses.length cu,.int .i64 (zch m),.slice ap acc.length cp,.slice ab bd.length cb],.int .i64 0]) (by simp [results,Tryz.results64,go_sem,r0,r1,r2,r3,r4,hlr,hacc]) rfl ⟨?_,?_⟩
          . rw [HR.out]
            exact ⟨au,cu,ap,cp,ab,cb,rfl,HA4.out.moves (HMv.out _ _ _ _ _ _ _ (fun b h=>⟨by have:=h.1;omega,h.2⟩)),HP4.out.moves (HMv.out _ _ _ _ _ _ _ (fun b h=>by have:W3.heap.size<=b:=h;exact ⟨by omega,by omega⟩)),HM4.out.moves (HMv.out _ _ _ _ _ _ _ (fun b h=>by have:wr.heap.size<=b:=h;exact ⟨by omega,by omega⟩))⟩
          . exact zer ((thenB HBw.out HB4.out).setCell (p:=⟨U,4,none⟩) (by show w.heap.size<=U;omega) _) (by omega) _ _ _ _ _
end Go.Proofs.YtndkhgakfodldaaGreatDoor

namespace Go.Proofs.YtndkhgakfodldaaGreatDoor
set_option maxRecDepth 100000
set_option maxHeartbeats 6400000
open Go.RowKit Go.Shelf
set_option linter.unusedSimpArgs false
set_option linter.unusedVariables false
def instrB (i:Gi):L8:=Fx.zal i.op :: (Fx.numB i.a++Fx.numB i.b)
def fixBy (f:Gf):L8:=Fx.numB f.at_++Fx.zal f.kind :: Fx.numB f.m
section
variable {P:Program} {ops:Array Oper} {o:Oper} {a:Act} {w:World} {K:Act->World->Prop} {Q:Exit->Act->World->Prop} {E:Prop}
end
theorem z1g (n:Int):IntKind.u8.wrap n=n % 256:=by
 have h1:IntKind.u8.signed=false:=rfl;have h2:IntKind.u8.bits=8:=rfl;simp [IntKind.wrap,h1,h2]
theorem ze9 {w w':World} {b:Nat} {x:Obj} (h:w.heap[b]? = some x) (hb:Below w.heap.size w w'):w'.heap[b]? = some x:=(hb.block _ (zab h)).trans h
theorem zm0 {ops:Array Oper} {o:Oper} {a:Act} {K:Act->World->Prop} {Q:Exit->Act->World->Prop} {E:Prop} {W:World} (hgd:o.guard=none) (s x:Operand)
 (ho:o.op = .call { callee:=.builtin .append,args:=#[s,x],argTypes:=#[140,140] }) (B:Nat) (v:Value) (l:L8) (hs:a.eval s=v) (hrow:Fx.Row B W v l) (n:Int) (H:Nat) (hx:a.eval x = .slice (some ⟨H,0,none⟩) 1 1) (hc:W.cell? ⟨H,0,none⟩=some (.int .u8 (IntKind.u8.wrap n))) (hl:l.length<=1000000) (hB:B<=W.heap.size)
 (h:∀ v' w',Fx.Row B w' v' (l++[Fx.zal n])->W.grownBy w' v.ownBlock->(∀ k,v'.ownBlock=some k->k<W.heap.size->v.ownBlock=some k)->K (a.put o.dst v') w') :
 if Region.wanted o (yielded ops a.tmps)=true then Oper.wp Tryz.prog o a W K Q else E:=by
 obtain ⟨i0,hi,hz0,hz1,hz2⟩:=info_parts Fx.z1z;refine step_append_lies W hgd s x 140 ho B 5 i0 _ 1 1 Tryz.underlying140 hi hz0 hz1 hz2 rfl (by omega) v l.length (Fx.bytesV l) hs hrow ⟨H,0,none⟩ 1 1 [Fx.zd7 (Fx.zal n)] hx rfl (fun j u hj=>?_) (by simp;rfl) (by omega) (by unfold maxLen;omega) (by omega) hB _ rfl ?_
 . have hj0:j=0:=by
    rcases vbj j 1 with h' | h'
    . omega
    . rw [vbs (by simpa using h')] at hj;cases hj
   subst hj0;cases hj;rw [show (⟨H,0,none⟩:Addr).add 0=⟨H,0,none⟩ from by unfold Addr.add;split<;>simp_all,hc,Fx.zcr,z1g]
 . intro g cap w' hown hg hat hlt
   refine h _ w' ?_ hg (fun k e hk=>?_)
   . unfold Fx.Row
     rw [← Fx.z85,Fx.zc6];exact hown
   . simp only [Value.ownBlock,vbh] at e
     subst e
     rcases hat with h1 | h1
     . exact h1
     . omega
theorem zhe {B:Nat} {w w':World} {v:Value} {l:L8} (h:Fx.Row B w v l) (hg:w.grownBy w' v.ownBlock) (hB:B<=w.heap.size):Below B w w':=(Below.refl B w).grown hg hB (fun k hk=>(h.lt k hk).1)
theorem ze0 {B:Nat} {v:Value} {l:L8} (n:Int) {w:World} (h:Fx.Row B w v l) (hB:B<=w.heap.size) (hl:l.length<=1000000) :
 Calls Tryz.prog 88 #[v,.int .i64 n] w fun e w'=>∃ u,e = .returned u/\(Fx.Row B w' u (l++Fx.numB n)/\Below B w w'/\w.grownBy w' v.ownBlock):=(Fx.zk4 B v l n w h hB hl).mono fun e w' ⟨u,h1,h2,h3⟩=>⟨u,h1,h2,zhe h h3 hB,h3⟩
theorem zwu {B:Nat} {v:Value} {l:L8} (s:ByteArray) {w:World} (h:Fx.Row B w v l) (hB:B<=w.heap.size) (hl:l.length<=1000000) (hs:s.size<=1000000) :
 Calls Tryz.prog 86 #[v,.string s] w fun e w'=>∃ u,e = .returned u/\(Fx.Row B w' u (l++Fx.textB s)/\Below B w w'):=(Fx.zn6 B v l s w h hB hl hs).mono fun e w' ⟨u,h1,h2,h3⟩=>⟨u,h1,h2,zhe h h3 hB⟩
theorem zm1 (B:Nat) (v:Value) (l:L8) (i:Gi) (w:World) (h:Fx.Row B w v l) (hB:B<=w.heap.size) (hl:l.length<=900000) :
 Calls Tryz.prog 90 #[v,.agg #[.int .i64 i.op,.int .i64 i.a,.int .i64 i.b]] w fun e w'=>∃ v',e = .returned v'/\(Fx.Row B w' v' (l++instrB i)/\Below B w w'):=by
 have hbox:=heap_newP w (.cells #[.int .i64 i.op,.int .i64 i.a,.int .i64 i.b] 69);generalize hW:w.alloc (.cells #[.int .i64 i.op,.int .i64 i.a,.int .i64 i.b] 69)=w1 at *
 have hb1:Below w.heap.size w w1:=by rw [← hW];exact al1 _ _
 have H1:=hid (h.later hb1);have HX:=hid hbox;have HB1:=hid (hb1.mono hB);have hz1:=hb1.size
 have HK:Hid (∀ {W W':World} {u:Value} {k:L8},Fx.Row B W u k->W.grownBy W' u.ownBlock->W.heap[w.heap.size]? = some (.cells #[.int .i64 i.op,.int .i64 i.a,.int .i64 i.b] 69)->W'.heap[w.heap.size]? = some (.cells #[.int .i64 i.op,.int .i64 i.a,.int .i64 i.b] 69)):=fun hr hg hx=>hr.keep hg (by decide) hx
 have HC:Hid (∀ {W:World},W.heap[w.heap.size]? = some (.cells #[.int .i64 i.op,.int .i64 i.a,.int .i64 i.b] 69)->W.cell? ⟨w.heap.size,0,none⟩=some (.int .i64 i.op)/\W.cell? ⟨w.heap.size,1,none⟩=some (.int .i64 i.a)/\W.cell? ⟨w.heap.size,2,none⟩=some (.int .i64 i.b)):=fun hx=>⟨(zbm hx).1,(zbm hx).2.1,(zbm hx).2.2.1⟩
 have hB1:B<=w1.heap.size:=by omega
 clear h hbox hb1;go_enter Tryz.func90,Tryz.ntmps90;go_upto_region 1 with fail
 try rw [hW]
 clear hW
 go_region_held_law (fun W=>W.cell? ⟨w.heap.size,0,none⟩=some (.int .i64 i.op)/\W.cell? ⟨w.heap.size,1,none⟩=some (.int .i64 i.a)/\W.cell? ⟨w.heap.size,2,none⟩=some (.int .i64 i.b))
  (first | with_reducible exact HC.out HX4.out | with_reducible exact HC.out HX3.out | with_reducible exact HC.out HX2.out | with_reducible exact HC.out (ze9 HX.out (bdrew _)) | with_reducible exact HC.out (ze9 HX.out (za7 _ _)) | with_reducible exact HC.out (ze9 HX.out (thenB (bdrew _) (al1 _ _))))
  (first
  | (go_at_call 88;refine (ze0 i.b K3.out (by omega) (by rw [L3.out];omega)).mono ?_;rintro e w4 ⟨u4,rfl,h4,b4,g4⟩;have K4:=hid h4;have B4:=hid (B3.out.trans b4);have HX4:=hid (HK.out K3.out g4 HX3.out);clear h4 g4 b4)
  | (go_at_call 88;refine (ze0 i.a K2.out (by omega) (by rw [L2.out];omega)).mono ?_;rintro e w3 ⟨u3,rfl,h3,b3,g3⟩;have K3:=hid h3;have B3:=hid (B2.out.trans b3);have HX3:=hid (HK.out K2.out g3 HX2.out);have L3:Hid ((l++[Fx.zal i.op]++Fx.numB i.a).length=l.length+9):=(by show _=_;simp [Fx.numB]);have hz3:=g3.size;clear h3 g3 b3)
  | (refine zm0 rfl (.tmp 5) (.tmp 9) rfl B v l rfl (H1.out.later (za7 _ _)) i.op w1.heap.size rfl (by simp) (by omega) (by simp;omega) ?_;intro u2 w2 h2 g2 k2;have K2:=hid h2;have B2:=hid (HB1.out.trans (((za7 w1 _).mono hB1).trans (zhe (H1.out.later (za7 _ _)) g2 (by simp;omega))));have HX2:=hid (HK.out (H1.out.later (za7 _ _)) g2 (ze9 HX.out (za7 _ _)));have L2:Hid ((l++[Fx.zal i.op]).length=l.length+1):=(by show _=_;simp);have hz2:=g2.size;simp at hz2;clear h2 g2 k2))
 all_goals
  go_wp2_with fail
  go_returns
  exact ⟨u4,rfl,by have:=K4.out;simp only [vaq,List.singleton_append] at this;exact this,B4.out⟩
theorem zq5 (B:Nat) (v:Value) (l:L8) (i:Gf) (w:World) (h:Fx.Row B w v l) (hB:B<=w.heap.size) (hl:l.length<=900000) :
 Calls Tryz.prog 92 #[v,.agg #[.int .i64 i.at_,.int .i64 i.kind,.int .i64 i.m]] w fun e w'=>∃ v',e = .returned v'/\(Fx.Row B w' v' (l++fixBy i)/\Below B w w'):=by
 have hbox:=heap_newP w (.cells #[.int .i64 i.at_,.int .i64 i.kind,.int .i64 i.m] 67);generalize hW:w.alloc (.cells #[.int .i64 i.at_,.int .i64 i.kind,.int .i64 i.m] 67)=w1 at *
 have hb1:Below w.heap.size w w1:=by rw [← hW];exact al1 _ _
 have H1:=hid (h.later hb1);have HX:=hid hbox;have HB1:=hid (hb1.mono hB);have hz1:=hb1.size
 have HK:Hid (∀ {W W':World} {u:Value} {k:L8},Fx.Row B W u k->W.grownBy W' u.ownBlock->W.heap[w.heap.size]? = some (.cells #[.int .i64 i.at_,.int .i64 i.kind,.int .i64 i.m] 67)->W'.heap[w.heap.size]? = some (.cells #[.int .i64 i.at_,.int .i64 i.kind,.int .i64 i.m] 67)):=fun hr hg hx=>hr.keep hg (by decide) hx
 have HC:Hid (∀ {W:World},W.heap[w.heap.size]? = some (.cells #[.int .i64 i.at_,.int .i64 i.kind,.int .i64 i.m] 67)->W.cell? ⟨w.heap.size,0,none⟩=some (.int .i64 i.at_)/\W.cell? ⟨w.heap.size,1,none⟩=some (.int .i64 i.kind)/\W.cell? ⟨w.heap.size,2,none⟩=some (.int .i64 i.m)):=fun hx=>⟨(zbm hx).1,(zbm hx).2.1,(zbm hx).2.2.1⟩
 have hB1:B<=w1.heap.size:=by omega
 clear h hbox hb1;go_enter Tryz.func92,Tryz.ntmps92;go_upto_region 1 with fail
 try rw [hW]
 clear hW;have HXd:=hid (ze9 HX.out (bdrew w1));have H1d:=hid (H1.out.later (bdrew w1))
 go_region_held_law (fun W=>W.cell? ⟨w.heap.size,0,none⟩=some (.int .i64 i.at_)/\W.cell? ⟨w.heap.size,1,none⟩=some (.int .i64 i.kind)/\W.cell? ⟨w.heap.size,2,none⟩=some (.int .i64 i.m))
  (first | with_reducible exact HC.out HX4.out | with_reducible exact HC.out HX3.out | with_reducible exact HC.out HX2.out | with_reducible exact HC.out (zae HX2.out) | with_reducible exact HC.out HXd.out | with_reducible exact HC.out (ze9 HX.out (za7 _ _)) | with_reducible exact HC.out (zae HXd.out))
  (first
  | (go_at_call 88;refine (ze0 i.m K3.out (by omega) (by rw [L3.out];omega)).mono ?_;rintro e w4 ⟨u4,rfl,h4,b4,g4⟩;have K4:=hid h4;have B4:=hid (B3.out.trans b4);have HX4:=hid (HK.out K3.out g4 HX3.out);clear h4 g4 b4)
  | (go_at_call 88;refine (ze0 i.at_ H1d.out (by simp;omega) (by omega)).mono ?_;rintro e w2 ⟨u2,rfl,h2,b2,g2⟩;have K2:=hid h2;have B2:=hid (HB1.out.trans (((bdrew w1).mono hB1).trans b2));have HX2:=hid (HK.out H1d.out g2 HXd.out);have L2:Hid ((l++Fx.numB i.at_).length=l.length+8):=(by show _=_;simp [Fx.numB]);have hz2:=g2.size;simp at hz2;clear h2 g2 b2)
  | (go_at_call 88;refine (ze0 i.at_ (H1.out.later (za7 _ _)) (by simp;omega) (by omega)).mono ?_;rintro e w2 ⟨u2,rfl,h2,b2,g2⟩;have K2:=hid h2;have B2:=hid (HB1.out.trans (((za7 w1 _).mono hB1).trans b2));have HX2:=hid (HK.out (H1.out.later (za7 _ _)) g2 (ze9 HX.out (za7 _ _)));have HO2:=hid ((g2.block w1.heap.size (by simp) (fun e=>absurd (H1.out.lies _ e.symm).2 (Nat.lt_irrefl _))).trans (heap_newP w1 _));have L2:Hid ((l++Fx.numB i.at_).length=l.length+8):=(by show _=_;simp [Fx.numB]);have hz2:=g2.size;simp at hz2;clear h2 g2 b2)
  | (refine zm0 rfl (.tmp 8) (.tmp 12) rfl B u2 (l++Fx.numB i.at_) rfl (K2.out.later (al1 _ _)) i.kind w2.heap.size rfl (by simp) (by rw [L2.out];omega) (by simp;omega) ?_;intro u3 w3 h3 g3 k3;have K3:=hid h3;have B3:=hid (B2.out.trans (((al1 w2 _).mono (by omega)).trans (zhe (K2.out.later (al1 _ _)) g3 (by simp;omega))));have HX3:=hid (HK.out (K2.out.later (al1 _ _)) g3 (zae HX2.out));have L3:Hid ((l++Fx.numB i.at_++[Fx.zal i.kind]).length=l.length+9):=(by show _=_;simp [Fx.numB]);have hz3:=g3.size;simp at hz3;clear h3 g3 k3)
  | (refine zm0 rfl (.tmp 8) (.tmp 12) rfl B u2 (l++Fx.numB i.at_) rfl K2.out i.kind w1.heap.size rfl (by exact (veq HO2.out 0).trans rfl) (by rw [L2.out];omega) (by omega) ?_;intro u3 w3 h3 g3 k3;have K3:=hid h3;have B3:=hid (B2.out.trans (zhe K2.out g3 (by omega)));have HX3:=hid (HK.out K2.out g3 HX2.out);have L3:Hid ((l++Fx.numB i.at_++[Fx.zal i.kind]).length=l.length+9):=(by show _=_;simp [Fx.numB]);have hz3:=g3.size;clear h3 g3 k3))
 all_goals
  go_wp2_with fail
  go_returns
  exact ⟨u4,rfl,by have:=K4.out;simp only [vaq,List.singleton_append] at this;exact this,B4.out⟩
set_option maxHeartbeats 1600000
def ya6:List PanicEntry:=[{ v:=.iface 9 (.string ⟨#[102,101,119,101,114,32,116,104,97,110,32,110,111,110,101]⟩),recovered:=false }]
def z80 (c:List PanicEntry):Prop:=c=Fx.zpl\/c=ya6
def Rdd {α:Type} (rb:Nat) (w:World) (r:Option (α × L8)) (rep:World->α->Value->Prop) (e:Ending) (w':World):Prop:=
 w.grownBy w' (some rb)/\((r=none/\∃ c,z80 c/\e = .panicked c)\/∃ x l v,r=some (x,l)/\e = .returned v/\rep w' x v/\Fx.Rdr w' rb l)
def isI (_:World) (n:Int) (v:Value):Prop:=v = .int .i64 n
def isS (_:World) (s:ByteArray) (v:Value):Prop:=v = .string s
theorem z67 {α β:Type} {rb:Nat} {w w':World} {r:Option (α × L8)} {rep:α->Value} {e:Ending} (f:α->β) {rep':World->β->Value->Prop} (hr:∀ x W,rep' W (f x) (rep x)) (h:Fx.z2h rb w r rep e w'):Rdd rb w (r.map fun q=>(f q.1,q.2)) rep' e w':=by
 obtain ⟨hg,h⟩:=h;refine ⟨hg,?_⟩
 rcases h with ⟨h1,h2⟩ | ⟨x,l,h1,h2,h3⟩
 . exact Or.inl ⟨by rw [h1];rfl,_,Or.inl rfl,h2⟩
 . exact Or.inr ⟨f x,l,_,by rw [h1];rfl,h2,hr x w',h3⟩
def pTx (l:L8):Option (ByteArray × L8):=(Fx.zf2 l).map fun q=>(Fx.strOf q.1,q.2)
theorem zwv {α β:Type} (r:Option (α × β)):(r.map fun q=>(id q.1,q.2))=r:=by cases r<;>rfl
theorem zs5 (rb:Nat) (l:L8) (w:World) (h:Fx.Rdr w rb l) (hl:l.length<=1000000):Calls Tryz.prog 139 #[.pointer (some ⟨rb,0,none⟩)] w fun e w'=>Rdd rb w (Fx.pNum l) isI e w':=
 (Fx.zyg rb l w h (by omega)).mono fun e w' h=>by have:=z67 id (rep':=isI) (fun _ _=>rfl) h;rwa [zwv] at this
theorem z5n (rb:Nat) (l:L8) (w:World) (h:Fx.Rdr w rb l) (hl:l.length<=1000000):Calls Tryz.prog 142 #[.pointer (some ⟨rb,0,none⟩)] w fun e w'=>Rdd rb w (Fx.zdm l) isI e w':=
 (Fx.zw2 rb l w h (by omega)).mono fun e w' h=>by have:=z67 id (rep':=isI) (fun _ _=>rfl) h;rwa [zwv] at this
theorem z5o (rb:Nat) (l:L8) (w:World) (h:Fx.Rdr w rb l) (hl:l.length<=1000000):Calls Tryz.prog 137 #[.pointer (some ⟨rb,0,none⟩)] w fun e w'=>Rdd rb w (pTx l) isS e w':=
 (Fx.z4y Fx.z5u rb l w h (by omega)).mono fun e w' h=>z67 Fx.strOf (rep':=isS) (fun _ _=>rfl) h
theorem zfa {l r:L8} {n:Int} (h:Fx.pNum l=some (n,r)):r.length+8=l.length:=by
 rw [Fx.zdp h,vab];show _=8+_;omega
theorem zjk {l r:L8} {n:Int} (h:Fx.zdm l=some (n,r)):r.length+1=l.length:=by
 rw [Fx.zhh h,vas]
theorem z1h {l r:L8} {n:ByteArray} (h:pTx l=some (n,r)):r.length+1<=l.length:=by
 unfold pTx at h
 cases hq:Fx.zf2 l with
 | none=>rw [hq] at h;cases h
 | some q=>
   rw [hq] at h;cases h;have:=Fx.zn9 (x:=q.1) (r:=q.2) hq;rw [this,vab,Fx.textB,vas];omega
def zpd (l:L8):Option (Nat × L8):=(Fx.pNum l).bind fun q=>if q.1<0 then none else some (q.1.toNat,q.2)
def isN (_:World) (n:Nat) (v:Value):Prop:=v = .int .i64 n
theorem zww {l r:L8} {n:Int} (h:Fx.pNum l=some (n,r)) : -9223372036854775808<=n/\n<=9223372036854775807:=by
 unfold Fx.pNum at h
 cases hq:Fx.zeh 8 l with
 | none=>rw [hq] at h;cases h
 | some q=>
   rw [hq] at h;cases h;obtain ⟨a,b,c,d,e,f,g,i,hx⟩:=Fx.z7x (Fx.zfk (x:=q.1) (r:=q.2) hq).1;show -9223372036854775808<=Fx.valL q.1/\Fx.valL q.1<=9223372036854775807;rw [hx,Fx.zj0];generalize Fx.horn _ _ _ _ _ _ _ _=z;unfold wrap64;omega
theorem zq6 (rb:Nat) (l:L8) (w:World) (h:Fx.Rdr w rb l) (hl:l.length<=1000000):Calls Tryz.prog 176 #[.pointer (some ⟨rb,0,none⟩)] w fun e w'=>Rdd rb w (zpd l) isN e w':=by
 have HN:=hid (zs5 rb l w h hl);have HP:Hid (zpd l=(Fx.pNum l).bind fun q=>if q.1<0 then none else some (q.1.toNat,q.2)):=rfl;clear h;go_enter Tryz.func176,Tryz.ntmps176;go_wp2_with fail;refine HN.out.mono ?_;rintro e w1 ⟨hg,⟨hp,c,hc,rfl⟩ | ⟨n,r,v,hp,rfl,hv,hr⟩⟩
 . exact ⟨rfl,hg,Or.inl ⟨by rw [HP.out,hp];rfl,c,hc,rfl⟩⟩
 . obtain rfl:v = .int .i64 n:=hv
   have HG:=hid hg;have HR:=hid hr
   by_cases t:n<0
   . have HE:Hid (zpd l=none):=by show _=_;rw [HP.out,hp];exact if_pos t
     clear hp hg hr;go_wp2_with fail;exact ⟨rfl,HG.out,Or.inl ⟨HE.out,_,Or.inr rfl,rfl⟩⟩
   . have HE:Hid (zpd l=some (n.toNat,r)):=by show _=_;rw [HP.out,hp];exact if_neg t
     clear hp hg hr;go_wp2_with fail
     go_returns
     exact ⟨HG.out,Or.inr ⟨n.toNat,r,_,HE.out,rfl,by unfold isN;rw [vdk (by omega)];rfl,HR.out⟩⟩
theorem zcb {w W w':World} {r:Option Nat} (hb:Below w.heap.size w W) (hg:W.grownBy w' r):w.grownBy w' r:=
 ⟨hg.os.trans hb.os,hg.tape.trans hb.tape,hg.output.trans hb.output,vai hb.size hg.size,fun k hk hne=>(hg.block k (vah hk hb.size) hne).trans (hb.block k hk)⟩
theorem za0 {w w':World} {r:Option Nat} (h:w.grownBy w' r) {a:Addr} {u:Value} (ha:w.heap.size<=a.block):w.grownBy (w'.setCell a u) r:=
 ⟨h.os,h.tape,h.output,by simpa using h.size,fun k hk hne=>(Below.heap_setCell w' a u k (by omega)).trans (h.block k hk hne)⟩
theorem zjl {w:World} {rb:Nat} {l:L8} (h:Fx.Rdr w rb l) (o:Obj):Fx.Rdr (w.alloc o) rb l:=h.below (al1 w o)
theorem zbo {w:World} {rb:Nat} {l:L8} (h:Fx.Rdr w rb l) {a:Addr} {u:Value} (ha:a.block≠rb):Fx.Rdr (w.setCell a u) rb l:=
 h.kept (r:=some a.block) ⟨rfl,rfl,rfl,by simp,fun k _ hne=>Below.heap_setCell w a u k (fun e=>hne (by rw [e]))⟩ (fun e=>ha (by cases e;rfl))
theorem gk {w w':World} {rb b:Nat} {x:Obj} (hg:w.grownBy w' (some rb)) (h:w.heap[b]? = some x) (hn:b≠rb):w'.heap[b]? = some x:=(hg.block b (zab h) (fun e=>hn (by cases e;rfl))).trans h
def zbn (l:L8):Option (Gi × L8):=(Fx.zdm l).bind fun a=>(Fx.pNum a.2).bind fun b=>(Fx.pNum b.2).map fun c=>(⟨a.1,b.1,c.1⟩,c.2)
def zcl (l:L8):Option (Gf × L8):=(Fx.pNum l).bind fun a=>(Fx.zdm a.2).bind fun b=>(Fx.pNum b.2).map fun c=>(⟨a.1,b.1,c.1⟩,c.2)
def ya7 (_:World) (i:Gi) (v:Value):Prop:=v = .agg #[.int .i64 i.op,.int .i64 i.a,.int .i64 i.b]
def ya8 (_:World) (i:Gf) (v:Value):Prop:=v = .agg #[.int .i64 i.at_,.int .i64 i.kind,.int .i64 i.m]
theorem z68 (rb:Nat) (l:L8) (w:World) (h:Fx.Rdr w rb l) (hl:l.length<=1000000):Calls Tryz.prog 141 #[.pointer (some ⟨rb,0,none⟩)] w fun e w'=>Rdd rb w (zbn l) ya7 e w':=by
 have hlt:=h.lt
 have hn0:w.heap.size≠rb:=by omega
 have HR:=hid h;have HP:Hid (zbn l=(Fx.zdm l).bind fun a=>(Fx.pNum a.2).bind fun b=>(Fx.pNum b.2).map fun c=>(⟨a.1,b.1,c.1⟩,c.2)):=rfl;clear h;go_enter Tryz.func141,Tryz.ntmps141;go_wp2_with fail;refine (z5n rb l _ (zjl HR.out _) hl).mono ?_;rintro e w1 ⟨hg,⟨hp,c,hc,rfl⟩ | ⟨k,l1,v,hp,rfl,hv,hr⟩⟩
 . exact ⟨rfl,zcb (al1 _ _) hg,Or.inl ⟨by rw [HP.out,hp];rfl,c,hc,rfl⟩⟩
 obtain rfl:v = .int .i64 k:=hv
 have HP1:Hid (zbn l=(Fx.pNum l1).bind fun b=>(Fx.pNum b.2).map fun c=>(⟨k,b.1,c.1⟩,c.2)):=by show _=_;rw [HP.out,hp];rfl
 have HX1:=hid (gk hg (heap_newP w (.cells #[.int .i64 0,.int .i64 0,.int .i64 0] 69)) hn0);have HG1:=hid (zcb (al1 w _) hg);have HR1:=hid hr;have hl1:=zjk hp;have hz1:=zab HX1.out
 have hn1:w1.heap.size≠rb:=by have:=hr.lt;omega
 have hn01:w.heap.size≠w1.heap.size:=by omega
 clear hg hr hp HP;go_wp2_with fail;refine (zs5 rb l1 _ (zjl HR1.out _) (by omega)).mono ?_;rintro e w2 ⟨hg,⟨hp,c,hc,rfl⟩ | ⟨k2,l2,v,hp,rfl,hv,hr⟩⟩
 . exact ⟨rfl,Fx.zaf HG1.out (zcb (al1 _ _) hg),Or.inl ⟨by rw [HP1.out,hp];rfl,c,hc,rfl⟩⟩
 obtain rfl:v = .int .i64 k2:=hv
 have HP2:Hid (zbn l=(Fx.pNum l2).map fun c=>(⟨k,k2,c.1⟩,c.2)):=by show _=_;rw [HP1.out,hp];rfl
 have HX2:=hid (gk hg (zae HX1.out) hn0);have HI2:=hid (gk hg (heap_newP w1 (.cells #[.int .i64 k,.int .i64 0,.int .i64 0] 69)) hn1);have HG2:=hid (Fx.zaf HG1.out (zcb (al1 w1 _) hg));have HR2:=hid hr;have hl2:=zfa hp;clear hg hr hp HP1 HX1 HR1;obtain ⟨i0,i1,i2,i3⟩:=zbm HI2.out;have iz:=zab HI2.out;go_wp2_with fail;refine (zs5 rb l2 _ (zbo HR2.out (by simpa using hn1)) (by omega)).mono ?_;have HGs:=hid (za0 (a:=⟨w1.heap.size,1,none⟩) (u:=.int .i64 k2) HG2.out (by show w.heap.size<=w1.heap.size;omega));rintro e w3 ⟨hg,⟨hp,c,hc,rfl⟩ | ⟨k3,l3,v,hp,rfl,hv,hr⟩⟩
 . exact ⟨rfl,Fx.zaf HGs.out hg,Or.inl ⟨by rw [HP2.out,hp];rfl,c,hc,rfl⟩⟩
 obtain rfl:v = .int .i64 k3:=hv
 have HP3:Hid (zbn l=some (⟨k,k2,k3⟩,l3)):=by show _=_;rw [HP2.out,hp];rfl
 have HX3:=hid (gk hg ((zac (p:=⟨w1.heap.size,1,none⟩) hn01 _).trans HX2.out) hn0);have HI3:Hid (w3.heap[w1.heap.size]? = some (.cells #[.int .i64 k,.int .i64 k2,.int .i64 0] 69)):=gk hg (zag HI2.out _) hn1;have HG3:=hid (Fx.zaf HGs.out hg);have HR3:=hid hr;clear hg hr hp HP2 i0 i1 i2 i3 iz HX2 HI2 HGs HG2 HR2;obtain ⟨i0,i1,i2,i3⟩:=zbm HI3.out;have iz:=zab HI3.out;obtain ⟨j0,j1,j2,j3⟩:=zbm HX3.out;have jz:=zab HX3.out;go_wp2_with fail;refine bodyPost_ret (v:=.agg #[.int .i64 k,.int .i64 k2,.int .i64 k3]) (by simp [results,Tryz.results141,go_sem,j0,j1,j2,i0,i1,i2,hn01,hn01.symm,jz,iz]) rfl ⟨?_,Or.inr ⟨_,l3,_,HP3.out,rfl,rfl,?_⟩⟩
 . exact za0 (za0 (za0 (za0 HG3.out (by show w.heap.size<=w1.heap.size;omega)) (vaa _)) (vaa _)) (vaa _)
 . exact zbo (zbo (zbo (zbo HR3.out hn1) hn0) hn0) hn0
theorem yaq (rb:Nat) (l:L8) (w:World) (h:Fx.Rdr w rb l) (hl:l.length<=1000000):Calls Tryz.prog 144 #[.pointer (some ⟨rb,0,none⟩)] w fun e w'=>Rdd rb w (zcl l) ya8 e w':=by
 have hlt:=h.lt
 have hn0:w.heap.size≠rb:=by omega
 have HR:=hid h;have HP:Hid (zcl l=(Fx.pNum l).bind fun a=>(Fx.zdm a.2).bind fun b=>(Fx.pNum b.2).map fun c=>(⟨a.1,b.1,c.1⟩,c.2)):=rfl;clear h;go_enter Tryz.func144,Tryz.ntmps144;go_wp2_with fail;refine (zs5 rb l _ (zjl HR.out _) hl).mono ?_;rintro e w1 ⟨hg,⟨hp,c,hc,rfl⟩ | ⟨k,l1,v,hp,rfl,hv,hr⟩⟩
 . exact ⟨rfl,zcb (al1 _ _) hg,Or.inl ⟨by rw [HP.out,hp];rfl,c,hc,rfl⟩⟩
 obtain rfl:v = .int .i64 k:=hv
 have HP1:Hid (zcl l=(Fx.zdm l1).bind fun b=>(Fx.pNum b.2).map fun c=>(⟨k,b.1,c.1⟩,c.2)):=by show _=_;rw [HP.out,hp];rfl
 have HX1:=hid (gk hg (heap_newP w (.cells #[.int .i64 0,.int .i64 0,.int .i64 0] 67)) hn0);have HG1:=hid (zcb (al1 w _) hg);have HR1:=hid hr;have hl1:=zfa hp;have hz1:=zab HX1.out
 have hn1:w1.heap.size≠rb:=by have:=hr.lt;omega
 have hn01:w.heap.size≠w1.heap.size:=by omega
 clear hg hr hp HP;go_wp2_with fail;refine (z5n rb l1 _ (zjl HR1.out _) (by omega)).mono ?_;rintro e w2 ⟨hg,⟨hp,c,hc,rfl⟩ | ⟨k2,l2,v,hp,rfl,hv,hr⟩⟩
 . exact ⟨rfl,Fx.zaf HG1.out (zcb (al1 _ _) hg),Or.inl ⟨by rw [HP1.out,hp];rfl,c,hc,rfl⟩⟩
 obtain rfl:v = .int .i64 k2:=hv
 have HP2:Hid (zcl l=(Fx.pNum l2).map fun c=>(⟨k,k2,c.1⟩,c.2)):=by show _=_;rw [HP1.out,hp];rfl
 have HX2:=hid (gk hg (zae HX1.out) hn0);have HI2:=hid (gk hg (heap_newP w1 (.cells #[.int .i64 k,.int .i64 0,.int .i64 0] 67)) hn1);have HG2:=hid (Fx.zaf HG1.out (zcb (al1 w1 _) hg));have HR2:=hid hr;have hl2:=zjk hp;clear hg hr hp HP1 HX1 HR1;obtain ⟨i0,i1,i2,i3⟩:=zbm HI2.out;have iz:=zab HI2.out;go_wp2_with fail;refine (zs5 rb l2 _ (zbo HR2.out (by simpa using hn1)) (by omega)).mono ?_;have HGs:=hid (za0 (a:=⟨w1.heap.size,1,none⟩) (u:=.int .i64 k2) HG2.out (by show w.heap.size<=w1.heap.size;omega));rintro e w3 ⟨hg,⟨hp,c,hc,rfl⟩ | ⟨k3,l3,v,hp,rfl,hv,hr⟩⟩
 . exact ⟨rfl,Fx.zaf HGs.out hg,Or.inl ⟨by rw [HP2.out,hp];rfl,c,hc,rfl⟩⟩
 obtain rfl:v = .int .i64 k3:=hv
 have HP3:Hid (zcl l=some (⟨k,k2,k3⟩,l3)):=by show _=_;rw [HP2.out,hp];rfl
 have HX3:=hid (gk hg ((zac (p:=⟨w1.heap.size,1,none⟩) hn01 _).trans HX2.out) hn0);have HI3:Hid (w3.heap[w1.heap.size]? = some (.cells #[.int .i64 k,.int .i64 k2,.int .i64 0] 67)):=gk hg (zag HI2.out _) hn1;have HG3:=hid (Fx.zaf HGs.out hg);have HR3:=hid hr;clear hg hr hp HP2 i0 i1 i2 i3 iz HX2 HI2 HGs HG2 HR2;obtain ⟨i0,i1,i2,i3⟩:=zbm HI3.out;have iz:=zab HI3.out;obtain ⟨j0,j1,j2,j3⟩:=zbm HX3.out;have jz:=zab HX3.out;go_wp2_with fail;refine bodyPost_ret (v:=.agg #[.int .i64 k,.int .i64 k2,.int .i64 k3]) (by simp [results,Tryz.results144,go_sem,j0,j1,j2,i0,i1,i2,hn01,hn01.symm,jz,iz]) rfl ⟨?_,Or.inr ⟨_,l3,_,HP3.out,rfl,rfl,?_⟩⟩
 . exact za0 (za0 (za0 (za0 HG3.out (by show w.heap.size<=w1.heap.size;omega)) (vaa _)) (vaa _)) (vaa _)
 . exact zbo (zbo (zbo (zbo HR3.out hn1) hn0) hn0) hn0
end Go.Proofs.YtndkhgakfodldaaGreatDoor
