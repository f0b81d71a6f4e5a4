import Derived.Test.YtndkhgakfodldaaGreatDoorIp
import Derived.Test.YtndkhgakfodldaaGreatDoorIo
namespace Go.Proofs.YtndkhgakfodldaaGreatDoor
set_option maxRecDepth 100000
set_option maxHeartbeats 25600000
open Go.RowKit Go.Shelf
set_option linter.unusedSimpArgs false
set_option linter.unusedVariables false
structure Fo (w0 ws:World) (nb C:Nat) (cs:Array Value) (wr:World) (st:Ns):Prop where
 nose:Fx.Nose wr nb st
 be:Below w0.heap.size w0 wr
 zb:wr.heap[w0.heap.size]? = some zC
 cb:wr.heap[C]? = some (.cells cs 62 (0,0))
 sz:ws.heap.size<=wr.heap.size
 mv:∀ b,C<b->b<ws.heap.size->wr.heap[b]? = ws.heap[b]?
 n0:w0.heap.size<nb
 nC:nb<C
 cC:C<ws.heap.size
section
variable {w0 ws wr w':World} {nb C:Nat} {cs:Array Value} {st st':Ns}
theorem Fo.grown (h:Fo w0 ws nb C cs wr st) (hg:wr.grownBy w' (some nb)) (hn:Fx.Nose w' nb st'):Fo w0 ws nb C cs w' st':=
 have h1:=h.n0;have h2:=h.nC;have h3:=h.sz
 ⟨hn,h.be.grown hg h.be.size (fun k e=>by cases e;omega),(hg.block _ (zab h.zb) (fun e=>by cases e;omega)).trans h.zb,(hg.block _ (zab h.cb) (fun e=>by cases e;omega)).trans h.cb,vai h.sz hg.size,fun b hb1 hb2=>(hg.block b (by omega) (fun e=>by cases e;omega)).trans (h.mv b hb1 hb2),h.n0,h.nC,h.cC⟩
theorem Fo.later (h:Fo w0 ws nb C cs wr st) (hb:Below wr.heap.size wr w'):Fo w0 ws nb C cs w' st:=h.grown (Fx.zei (some nb) hb) (h.nose.kept (Fx.zei none hb) (by simp))
theorem Fo.put (h:Fo w0 ws nb C cs wr st) (i:Nat) (u:Value):Fo w0 ws nb C (cs.setIfInBounds i u) (wr.setCell ⟨C,i,none⟩ u) st:=
 have h1:=h.n0;have h2:=h.nC
 ⟨h.nose.kept (r:=some C) ⟨rfl,rfl,rfl,by simp,fun k _ hne=>zac (fun e=>hne (by rw [e])) u⟩ (fun e=>by cases e;omega),h.be.setCell (p:=⟨C,i,none⟩) (by show w0.heap.size<=C;omega) u,(zac (by show w0.heap.size≠C;omega) u).trans h.zb,zag h.cb u,by simpa using h.sz,fun b hb1 hb2=>(zac (by show b≠C;omega) u).trans (h.mv b hb1 hb2),h.n0,h.nC,h.cC⟩
theorem Fo.belowB {base:Nat} (h:Fo w0 ws nb C cs wr st) (hb:Below base wr w') (hbase:ws.heap.size<=base):Fo w0 ws nb C cs w' st:=
 have h1:=h.n0;have h2:=h.nC;have h3:=h.cC
 have k:∀ j,w'.cell? ⟨nb,j,none⟩=wr.cell? ⟨nb,j,none⟩:=fun j=>vet (a:=⟨nb,j,none⟩) (hb.block nb (by omega))
 have f:∀ j,w'.frozen? ⟨nb,j,none⟩=wr.frozen? ⟨nb,j,none⟩:=fun j=>vev (a:=⟨nb,j,none⟩) (hb.block nb (by omega))
 ⟨⟨vah h.nose.lt hb.size,(k 0).trans h.nose.c0,(k 1).trans h.nose.c1,(f 0).trans h.nose.f0,(f 1).trans h.nose.f1⟩,h.be.trans (hb.mono (by omega)),(hb.block _ (by omega)).trans h.zb,(hb.block _ (by omega)).trans h.cb,vai h.sz hb.size,fun b hb1 hb2=>(hb.block b (by omega)).trans (h.mv b hb1 hb2),h.n0,h.nC,h.cC⟩
theorem Fo.restart (h:Fo w0 ws nb C cs wr st):Fo w0 wr nb C cs wr st:=⟨h.nose,h.be,h.zb,h.cb,vaa _,fun _ _ _=>rfl,h.n0,h.nC,zab h.cb⟩
theorem Fo.row {B n sz:Nat} {e:TypeId} {v:Value} {xs:List Value} (h:Fo w0 ws nb C cs wr st) (k:ws.ownsRow B e sz v n xs) (hB:C<B):wr.ownsRow B e sz v n xs:=zbd k (fun g hg=>h.mv g (by have:=(k.lt g hg).1;omega) (k.lt g hg).2)
end
theorem zvx {W:World} {B:Nat} {e:TypeId} {size:Nat} {v:Value} {n:Nat} {xs:List Value} (h:W.ownsRow B e size v n xs) {a:Addr} {u:Value} (ha:∀ k,v.ownBlock=some k->k≠a.block):(W.setCell a u).ownsRow B e size v n xs:=
 zbd h (fun k hk=>zac (ha k hk) u)
theorem zoh {w:World} {b:Nat} {x0 x1 x2:Value} {t:TypeId} (h:w.heap[b]? = some (.cells #[x0,x1,x2] t (0,0))) :
 w.cell? ⟨b,0,none⟩=some x0/\w.cell? ⟨b,1,none⟩=some x1/\w.cell? ⟨b,2,none⟩=some x2/\b<w.heap.size:=by
 refine ⟨?_,?_,?_,zab h⟩<;>(rw [veq h];rfl)
theorem z2y {w:World} {nb:Nat} {st:Ns} (h:Fx.Nose w nb st) {a:Addr} {u:Value} (ha:nb≠a.block):Fx.Nose (w.setCell a u) nb st:=
 h.kept (r:=some a.block) ⟨rfl,rfl,rfl,by simp,fun k _ hne=>zac (fun e=>hne (by rw [e])) u⟩ (fun e=>ha (vac e))
theorem Fo.far {w0 ws wr:World} {nb C:Nat} {cs:Array Value} {st:Ns} (h:Fo w0 ws nb C cs wr st) {X i:Nat} {u:Value} (hX:ws.heap.size<=X):Fo w0 ws nb C cs (wr.setCell ⟨X,i,none⟩ u) st:=
 have h1:=h.n0;have h2:=h.nC;have h3:=h.cC
 ⟨z2y h.nose (by show nb≠X;omega),h.be.setCell (p:=⟨X,i,none⟩) (by show w0.heap.size<=X;omega) u,(zac (by show w0.heap.size≠X;omega) u).trans h.zb,(zac (by show C≠X;omega) u).trans h.cb,by simpa using h.sz,fun b hb1 hb2=>(zac (by show b≠X;omega) u).trans (h.mv b hb1 hb2),h.n0,h.nC,h.cC⟩
theorem zp1 {α:Type} {q:Ns->α × Ns} {m:Nat} {acc:List α} {l:L8} {bad:Bool} (h:(decide (0<(m:Int)) && !bad)=false):nGo q m acc (l,bad)=(acc,(l,bad)):=by
 cases m with
 | zero=>rfl
 | succ m=>
   have:bad=true:=by
    rw [decide_eq_true (by omega:(0:Int)<((m+1:Nat):Int))] at h;simpa using h
   subst this
   rfl
theorem zk7 {α:Type} {q:Ns->α × Ns} {m:Nat} {acc:List α} {l:L8} {bad:Bool} (h:(decide (0<(m:Int)) && !bad)=true):bad=false/\∃ k,m=k+1/\nGo q m acc (l,bad)=nGo q k (acc++[(q (l,false)).1]) (q (l,false)).2:=by
 rw [vad,decide_eq_true_eq] at h
 obtain ⟨k,rfl⟩:∃ k,m=k+1:=⟨m - 1,by omega⟩
 have:bad=false:=by simpa using h.2
 subst this;exact ⟨rfl,k,rfl,rfl⟩
theorem z2z:Enters Tryz.prog 98:=enters_of Tryz.func98 (by kernel_rfl) rfl
theorem z58:Enters Tryz.prog 100:=enters_of Tryz.func100 (by kernel_rfl) rfl
def z20 (w:World) (l:L8) (e:Ending) (w':World):Prop:=
 Below w.heap.size w w'/\((zvu l=false/\e = .returned (.tuple #[zV,.bool false]))\/(zvu l=true/\∃ v,e = .returned (.tuple #[v,.bool true])/\z7s w.heap.size w' (frO l) v))
theorem zzd (l:L8):(frO l).name.size<=255/\(∀ s ∈ (frO l).uses,s.size<=255)/\(frO l).uses.length<=32768/\(frO l).code.length<=32768/\(frO l).fixes.length<=32768/\(frO l).entries.length<=32768:=
 ⟨(zlx _).1,(zfp (Q:=fun s:ByteArray=>s.size<=255) zlx (fr1 l).2).1,(zfp (Q:=fun s:ByteArray=>s.size<=255) zlx (fr1 l).2).2.1,(zfp (Q:=fun i:Gi=>W64 i.op/\W64 i.a/\W64 i.b) zj4 (fr3 l).2).2.1,(zfp (Q:=fun i:Gf=>W64 i.at_/\W64 i.kind/\W64 i.m) zly (fr4 l).2).2.1,(zfp (Q:=W64) zp0 (fr5 l).2).2.1⟩
theorem z59 {W:World} {o:Ob} {lo B1 B3 B4 B5:Nat} {x1 x3 x4 x5:OA} {y1 y3 y4 y5:Nat} (h1:W.ownsRow B1 9 1 (.slice x1 o.uses.length y1) o.uses.length (strV o.uses)) (h3:W.ownsRow B3 69 3 (.slice x3 o.code.length y3) o.code.length (zln o.code)) (h4:W.ownsRow B4 67 3 (.slice x4 o.fixes.length y4) o.fixes.length (ztc o.fixes)) (h5:W.ownsRow B5 3 1 (.slice x5 o.entries.length y5) o.entries.length (intV o.entries)) (b1:lo<=B1) (b3:lo<=B3) (b4:lo<=B4) (b5:lo<=B5) (hf:Fits o) (hs:o.name.size<=255/\(∀ s ∈ o.uses,s.size<=255)/\o.uses.length<=32768/\o.code.length<=32768/\o.fixes.length<=32768/\o.entries.length<=32768):OvLo W lo o x1 x3 x4 x5:=by
 obtain ⟨s1,s2,s3,s4,s5,s6⟩:=hs;refine ⟨vai s1 (by decide),?_,hf.data,?_,?_,?_,hf.main⟩
 . exact zfn h1 b1 (zlv _ (fun s hs=>vai (s2 s hs) (by decide))) (by simp [zao]) (by rw [show (zao o.uses).length=o.uses.length from by simp [zao]];omega)
 . exact zfn h3 b3 (zpu _ hf.code) (by rw [zhr];omega) (by rw [zhr];omega)
 . exact zfn h4 b4 (zpv _ hf.fixes) (by rw [zhs];omega) (by rw [zhs];omega)
 . exact zfn h5 b5 (zlu _ hf.entries) (by simp [zk8]) (by rw [show (zk8 o.entries).length=o.entries.length from by simp [zk8]];omega)
theorem z76 {W w8:World} {o:Ob} {r C:Nat} {x1 x3 x4 x5:OA} (h:OvLo W (C+1) o x1 x3 x4 x5) (hb:Below W.heap.size W w8) (hr:r<C) (v0 v1 v2 v3 v4 v5 v6:Value):OvLo (zvn w8 r v0 v1 v2 v3 v4 v5 v6) r o x1 x3 x4 x5:=
 h.moves ⟨by show W.heap.size<=(zvn w8 r v0 v1 v2 v3 v4 v5 v6).heap.size;unfold zvn;simpa using hb.size,fun b h1 h2=>⟨by omega,(zfo (by omega) v0 v1 v2 v3 v4 v5 v6).trans (hb.block b h1)⟩⟩
theorem zze (st:Ns):(Fx.strOf (Fx.nText st).1).size<=255:=(zlx st).1
theorem znl (l:L8) (w:World) (hl:l.length<=32768) :
 Calls Tryz.prog 39 #[.string (Fx.strOf l)] w fun e w'=>z20 w l e w':=by
 obtain ⟨W0,hW0⟩:∃ W0:World,W0=(w.alloc zC).alloc (.cells #[.string (Fx.strOf l),.bool false] 155):=⟨_,rfl⟩
 have hN0:Fx.Nose W0 (w.heap.size+1) (l,false):=by
  rw [hW0]
  constructor<;>simp
 have hZ0:W0.heap[w.heap.size]? = some zC:=by rw [hW0];exact zae (heap_newP w _)
 have hB0:Below w.heap.size w W0:=by rw [hW0];exact bl2 w _ _
 have hzW:W0.heap.size=w.heap.size+2:=by rw [hW0];simp
 have HN0:=hid hN0;have HZ0:=hid hZ0;have HB0:=hid hB0;have HZW:=hid hzW;have HW0:=hid hW0;clear hN0 hZ0 hB0 hW0 hzW;go_enter Tryz.func39,Tryz.ntmps39;go_wp2_with fail;rw [← HW0.out];refine (Fx.zku _ _ _ HN0.out (by show l.length<=_;omega)).mono ?_;rintro e w1 ⟨rfl,hn1,hg1⟩;have E1:Hid (fr1 l=(Fx.strOf (Fx.nText (l,false)).1,(Fx.nText (l,false)).2)):=rfl;have T1:Hid ((Fx.nText (l,false)).2.1.length<=l.length):=(Fx.zru (l,false)).1;have T0:=hid (zze (l,false));generalize Fx.strOf (Fx.nText (l,false)).1=nm at *;generalize (Fx.nText (l,false)).2=st1 at *
 obtain ⟨W1,hW1⟩:∃ W1:World,W1=w1.alloc (.cells #[.string nm,.slice none 0 0,.int .i64 0,.slice none 0 0,.slice none 0 0,.slice none 0 0,.int .i64 0] 62):=⟨_,rfl⟩
 have hz1:w.heap.size+2<=w1.heap.size:=by have:=hg1.size;have:=HZW.out;omega
 have HF1:Hid (Fo w W1 (w.heap.size+1) w1.heap.size #[.string nm,.slice none 0 0,.int .i64 0,.slice none 0 0,.slice none 0 0,.slice none 0 0,.int .i64 0] W1 st1):=by
  have hb:=al1 w1 (.cells #[.string nm,.slice none 0 0,.int .i64 0,.slice none 0 0,.slice none 0 0,.slice none 0 0,.int .i64 0] 62);rw [← hW1] at hb;exact ⟨hn1.kept (Fx.zei none hb) (by simp),(HB0.out.grown hg1 HB0.out.size (fun k e=>by have:=vac e;omega)).trans (hb.mono (by omega)),(hb.block _ (by omega)).trans ((hg1.block _ (by have:=HZW.out;omega) (fun e=>by have:=vac e;omega)).trans HZ0.out),by rw [hW1];exact heap_newP w1 _,vaa _,fun _ _ _=>rfl,by omega,by omega,by rw [hW1];simp⟩
 have HW1:=hid hW1;clear hn1 hg1 hW1 HN0 HZ0 HB0 HW0 HZW;generalize hC:w1.heap.size=C at *;go_wp2_with fail;rw [← HW1.out];clear HW1;refine (ze5 _ _ _ HF1.out.nose (by have:=T1.out;omega)).mono ?_;rintro e w2 ⟨rfl,hn2,hg2⟩;have HF2:=hid (HF1.out.grown hg2 hn2).restart
 have HQ2:Hid (∀ {α:Type} (q:Ns->α × Ns),nLst q st1=nGo q (nCnt st1).1.toNat [] (nCnt st1).2):=fun q=>rfl
 have hlo2:=zlw st1;have T2:Hid ((nCnt st1).2.1.length<=l.length):=vai hlo2.2.2 T1.out;generalize nCnt st1=c2 at *;obtain ⟨ci2,st2⟩:=c2;simp only at HQ2 hlo2 HF2 T2
 obtain ⟨m2,hm2⟩:∃ m:Nat,ci2=(m:Int):=⟨ci2.toNat,by omega⟩
 subst hm2;rw [vbm] at HQ2
 have hm2:m2<=32768:=by omega
 clear hn2 hg2 hlo2
 have HI2:Hid (nGo nTx m2 [] st2=fr2 l):=by show _=fr2 l;unfold fr2;rw [E1.out];exact (HQ2.out nTx).symm
 clear HQ2;go_wp2_with fail
 go_loopw [6] (fun i wr=>∃ (m:Nat) (st:Ns) (acc:List ByteArray) (u:Value),i = .int .i64 m/\acc.length+m<=32768/\st.1.length<=l.length/\nGo nTx m acc st=fr2 l/\Fo w w2 (w.heap.size+1) C #[.string nm,u,.int .i64 0,.slice none 0 0,.slice none 0 0,.slice none 0 0,.int .i64 0] wr st/\wr.ownsRow w2.heap.size 9 1 u acc.length (strV acc)) (fun i _=>(intOf i).toNat)
 case atStart=>exact ⟨m2,st2,[],_,rfl,by simp;omega,T2.out,HI2.out,HF2.out,ves _ _ _ _⟩
 case round=>
  clear HI2 HF2 T2 hm2;obtain ⟨m,⟨sl,bad⟩,acc,u,rfl,hm,hst,hgo,hF,hrow⟩:=hrel;simp only at hst;have HF:=hid hF;have HO:=hid hrow;have HGo:=hid hgo;have hsz:=hF.sz;obtain ⟨q0,q1,q2,q3,q4,q5,q6,qz⟩:=zaj hF.cb
  have qf:∀ j,wr.frozen? ⟨C,j,none⟩=false:=fun j=>vep HF.out.cb j
  obtain ⟨nl,n0,n1, -, -⟩:=hF.nose;simp only at n1;clear hF hrow hgo n0
  obtain ⟨bb,hbb⟩:∃ bb,(decide (0<(m:Int)) && !bad)=bb:=⟨_,rfl⟩
  have HBB:=hid hbb;go_upto_region 4 with fail
  go_cut [28] (fun v wc=>v = .bool bb/\wc=wr)
  case first=>
   clear HBB
   rcases vce m with rfl | hm0
   . have hd:bb=false:=by rw [← hbb];rfl
     rw [show ((0:Nat):Int)=0 from rfl];clear hbb hm;go_wp2_with fail;go_meet;exact ⟨by rw [hd],rfl⟩
   . have hm1:(0:Int)<m:=by omega
     have hd:decide ((0:Int)<m)=true:=decide_eq_true hm1;rw [hd,vdb] at hbb;clear hm hm0;go_wp2_with fail;go_meet;exact ⟨by rw [← hbb],rfl⟩
  case rest=>
   obtain ⟨rfl,rfl⟩:=hcut;clear hbb
   cases bb with
   | true=>
     obtain ⟨rfl,m',rfl,hgm⟩:=zk7 (q:=nTx) (acc:=acc) (l:=sl) HBB.out;have HGm:Hid (nGo nTx m' (acc++[(nTx (sl,false)).1]) (nTx (sl,false)).2=fr2 l):=hgm.symm.trans HGo.out
     have hmi:((m'+1:Nat):Int) - 1=m':=by omega
     clear hgm HGo HBB
     have HE:Hid (∀ W,Fx.Nose W (w.heap.size+1) (sl,false)->Calls Tryz.prog 98 #[.pointer (some ⟨w.heap.size+1,0,none⟩)] W fun e w'=>∃ v,e = .returned v/\(v = .string (nTx (sl,false)).1/\Fx.Nose w' (w.heap.size+1) (nTx (sl,false)).2/\W.grownBy w' (some (w.heap.size+1)))):=fun W h=>((Fx.zku _ _ W h (by show sl.length<=_;omega)).mono (fun e w' h=>⟨_,h.1,rfl,h.2.1,h.2.2⟩))
     have HLn:Hid ((nTx (sl,false)).2.1.length<=l.length):=vai (zlx (sl,false)).2 hst;have HFd:=hid (HF.out.later (w':=wc.drew) ((Below.refl _ _).drew));have HOd:=hid (ownsRow_later HO.out (W':=wc.drew) ((Below.refl _ _).drew));go_wp2_with fail
     go_region_law (first
      | (refine zb4 (by rfl) 98 _ _ (by rfl) z2z _ (by rfl) (HE.out _ HFd.out.nose) ?_
         rintro v8 w8 ⟨rfl,hn8,hg8⟩;have HF8:=hid (HFd.out.grown hg8 hn8);have HO8:=hid (zbc HOd.out hg8 (by have:=HF.out.nC;have:=HF.out.cC;omega));obtain ⟨k0,k1,k2,k3,k4,k5,k6,kz⟩:=zaj HF8.out.cb
         have kf:∀ j,w8.frozen? ⟨C,j,none⟩=false:=fun j=>vep HF8.out.cb j
         have hz8:=HF8.out.sz
         clear hn8 hg8)
      | (refine zhg (by rfl) _ _ 22 (by rfl) w2.heap.size 9 _ 1 16 Tryz.underlying22 Tryz.infoP9 rfl (by decide) w8 _ acc.length (strV acc) (by rfl) HO8.out #[.string (nTx (sl,false)).1] _ rfl (by rfl) rfl (z1q _) (by omega) (by decide) (by omega) _ (by rfl) ?_
         intro g9 c9 w9 ho9 hb9 hz9 hkp9 hkb9;have HF9:=hid (HF8.out.belowB hb9 (vaa _));have HO9:=hid ho9;obtain ⟨j0,j1,j2,j3,j4,j5,j6,jz⟩:=zaj HF9.out.cb
         have jf:∀ j,w9.frozen? ⟨C,j,none⟩=false:=fun j=>vep HF9.out.cb j
         clear ho9 hb9 hz9 hkp9 hkb9))
     all_goals
      clear HE;go_wp2_with fail;go_roundw
      case rel=>exact ⟨m',(nTx (sl,false)).2,acc++[(nTx (sl,false)).1],_,by first | rfl | (rw [hmi]) | go_num,by rw [vab,vbc];omega,HLn.out,HGm.out,HF9.out.put 1 _,zba (by rw [vab,vbc,zpi];exact HO9.out) (by show C<_;exact HF.out.cC)⟩
      case measure=>simp [intOf]
   | false =>
     have A1:Hid (fr2 l=(acc,(sl,bad))):=by show _=_;rw [← HGo.out];exact zp1 HBB.out
     obtain ⟨x1,y1,rfl,hcap1, -⟩:=zau HO.out;have C1:=hid hcap1;have K1:=hid HO.out;have T3:Hid (((sl,bad):Ns).1.length<=l.length):=hst;have hBK1:C<w2.heap.size:=HF.out.cC;have HF3:=hid HF.out.restart
     obtain ⟨st3,hst3⟩:∃ s:Ns,(sl,bad)=s:=⟨_,rfl⟩
     rw [hst3] at A1 T3 HF3;generalize hz1:acc=z1 at *;clear hz1 hst3 HO HGo HBB HF hm hst hcap1 hsz;clear q0 q1 q2 q3 q4 q5 q6 qz qf nl n1;go_wp2_with fail;refine (Fx.zcn _ _ _ HF3.out.nose (by have:=T3.out;omega)).mono ?_;rintro e w4 ⟨rfl,hn4,hg4⟩;have HFa:=hid (HF3.out.grown hg4 hn4);have T4:Hid ((Fx.nNum st3).2.1.length<=l.length):=vai (Fx.zc1 _) T3.out
     have Ad:Hid (fr3 l=Fx.nNum st3):=by show fr3 l=_;unfold fr3;rw [A1.out]
     generalize Fx.nNum st3=c4 at *;obtain ⟨dd,st4⟩:=c4;simp only at HFa T4;have K1:=hid (HFa.out.row K1.out (by omega));obtain ⟨q0,q1,q2,q3,q4,q5,q6,qz⟩:=zaj HFa.out.cb
     have qf:∀ j,w4.frozen? ⟨C,j,none⟩=false:=fun j=>vep HFa.out.cb j
     have HF4:Hid (Fo w (w4.setCell ⟨C,2,none⟩ (.int .i64 dd)) (w.heap.size+1) C #[.string nm,.slice x1 z1.length y1,.int .i64 dd,.slice none 0 0,.slice none 0 0,.slice none 0 0,.int .i64 0] (w4.setCell ⟨C,2,none⟩ (.int .i64 dd)) st4):=(HFa.out.put 2 (.int .i64 dd)).restart;have K1:=hid (zba K1.out (a:=⟨C,2,none⟩) (u:=.int .i64 dd) (by show C<_;omega));generalize hWv:w4.setCell ⟨C,2,none⟩ (.int .i64 dd)=W4 at *;clear hn4 hg4 HFa;go_wp2_with fail
     try rw [hWv]
     clear hWv q0 q1 q2 q3 q4 q5 q6 qz qf;refine (ze5 _ _ _ HF4.out.nose (by have:=T4.out;omega)).mono ?_;rintro e w5 ⟨rfl,hn5,hg5⟩;have HF5:=hid (HF4.out.grown hg5 hn5).restart;have K1:=hid ((HF4.out.grown hg5 hn5).row K1.out (by omega))
     have HQ5:Hid (∀ {α:Type} (q:Ns->α × Ns),nLst q st4=nGo q (nCnt st4).1.toNat [] (nCnt st4).2):=fun q=>rfl
     have hlo5:=zlw st4;have T5:Hid ((nCnt st4).2.1.length<=l.length):=vai hlo5.2.2 T4.out;generalize nCnt st4=c5 at *;obtain ⟨ci5,st5⟩:=c5;simp only at HQ5 hlo5 HF5 T5
     obtain ⟨m5,hm5⟩:∃ m:Nat,ci5=(m:Int):=⟨ci5.toNat,by omega⟩
     subst hm5;rw [vbm] at HQ5
     have hm5:m5<=32768:=by omega
     clear hn5 hg5 hlo5
     have HI5:Hid (nGo ze2 m5 [] st5=fr4 l):=by show _=fr4 l;unfold fr4;rw [Ad.out];exact (HQ5.out ze2).symm
     clear HQ5;go_wp2_with fail
     go_loopw [7] (fun i wr=>∃ (m:Nat) (st:Ns) (acc:List Gi) (u:Value),i = .int .i64 m/\acc.length+m<=32768/\st.1.length<=l.length/\nGo ze2 m acc st=fr4 l/\Fo w w5 (w.heap.size+1) C #[.string nm,.slice x1 z1.length y1,.int .i64 dd,u,.slice none 0 0,.slice none 0 0,.int .i64 0] wr st/\wr.ownsRow w5.heap.size 69 3 u acc.length (zln acc)) (fun i _=>(intOf i).toNat)
     case atStart=>exact ⟨m5,st5,[],_,rfl,by simp;omega,T5.out,HI5.out,HF5.out,ves _ _ _ _⟩
     case round=>
      clear HI5 HF5 T5 hm5;obtain ⟨m,⟨sl,bad⟩,acc,u,rfl,hm,hst,hgo,hF,hrow⟩:=hrel;simp only at hst;have HF:=hid hF;have HO:=hid hrow;have HGo:=hid hgo;have hsz:=hF.sz;obtain ⟨q0,q1,q2,q3,q4,q5,q6,qz⟩:=zaj hF.cb
      have qf:∀ j,wr.frozen? ⟨C,j,none⟩=false:=fun j=>vep HF.out.cb j
      obtain ⟨nl,n0,n1, -, -⟩:=hF.nose;simp only at n1;clear hF hrow hgo n0
      obtain ⟨bb,hbb⟩:∃ bb,(decide (0<(m:Int)) && !bad)=bb:=⟨_,rfl⟩
      have HBB:=hid hbb;go_upto_region 9 with fail
      go_cut [51] (fun v wc=>v = .bool bb/\wc=wr)
      case first=>
       clear HBB
       rcases vce m with rfl | hm0
       . have hd:bb=false:=by rw [← hbb];rfl
         rw [show ((0:Nat):Int)=0 from rfl];clear hbb hm;go_wp2_with fail;go_meet;exact ⟨by rw [hd],rfl⟩
       . have hm1:(0:Int)<m:=by omega
         have hd:decide ((0:Int)<m)=true:=decide_eq_true hm1;rw [hd,vdb] at hbb;clear hm hm0;go_wp2_with fail;go_meet;exact ⟨by rw [← hbb],rfl⟩
      case rest=>
       obtain ⟨rfl,rfl⟩:=hcut;clear hbb
       cases bb with
       | true=>
         obtain ⟨rfl,m',rfl,hgm⟩:=zk7 (q:=ze2) (acc:=acc) (l:=sl) HBB.out;have HGm:Hid (nGo ze2 m' (acc++[(ze2 (sl,false)).1]) (ze2 (sl,false)).2=fr4 l):=hgm.symm.trans HGo.out
         have hmi:((m'+1:Nat):Int) - 1=m':=by omega
         clear hgm HGo HBB;have hl1:sl.length<=l.length:=hst;have HLn:Hid ((ze2 (sl,false)).2.1.length<=l.length):=vai (zj4 (sl,false)).2 hst;have hq:ze2 (sl,false)=(⟨(Fx.nByte (sl,false)).1,(Fx.nNum (Fx.nByte (sl,false)).2).1,(Fx.nNum (Fx.nNum (Fx.nByte (sl,false)).2).2).1⟩,(Fx.nNum (Fx.nNum (Fx.nByte (sl,false)).2).2).2):=rfl;rw [hq] at HGm HLn;clear hq;go_wp2_with fail;refine (Fx.zfu _ _ _ HF.out.nose (by show sl.length<=_;omega)).mono ?_;rintro e xw3 ⟨rfl,hn3,hg3⟩;have HF3:=hid (HF.out.grown hg3 hn3);have HO3:=hid (zbc HO.out hg3 (by have:=HF.out.nC;have:=HF.out.cC;omega));have hl3:=Fx.zet (sl,false);simp only at hl3;have hsz3:=HF3.out.sz;clear hn3 hg3 q0 q1 q2 q3 q4 q5 q6 qz qf nl n1;generalize Fx.nByte (sl,false)=y0 at HGm HLn HF3 hl3 ⊢;obtain ⟨p0,s0⟩:=y0;simp only at HGm HLn HF3 hl3
         have HX:=hid (heap_newP xw3 (.cells #[.int .i64 p0,.int .i64 0,.int .i64 0] 69));have HF4:=hid (HF3.out.later (al1 xw3 (.cells #[.int .i64 p0,.int .i64 0,.int .i64 0] 69)));have HO4:=hid (ownsRow_later HO3.out (al1 xw3 (.cells #[.int .i64 p0,.int .i64 0,.int .i64 0] 69)));have HG:=hid (fun k (hk:u.ownBlock=some k)=>(HO3.out.lt k hk).2)
         obtain ⟨xW4,hW4⟩:∃ xW4:World,xw3.alloc (.cells #[.int .i64 p0,.int .i64 0,.int .i64 0] 69)=xW4:=⟨_,rfl⟩
         rw [hW4] at HX HF4 HO4;have hX4:xw3.heap.size<xW4.heap.size:=zab HX.out;have HW4:=hid hW4;clear hW4;go_wp2_with fail;rw [HW4.out];clear HW4;generalize xw3.heap.size=X at *;refine (Fx.zcn _ _ _ HF4.out.nose (by omega)).mono ?_;rintro e xw5 ⟨rfl,hn5,hg5⟩;have HF5:=hid (HF4.out.grown hg5 hn5);have HO5:=hid (zbc HO4.out hg5 (by have:=HF.out.nC;have:=HF.out.cC;omega));have HX5:Hid (xw5.heap[X]? = some (.cells #[.int .i64 p0,.int .i64 0,.int .i64 0] 69)):=(hg5.block _ hX4 (fun e=>by have:=HF.out.nC;have:=HF.out.cC;have:=vac e;omega)).trans HX.out;have hl5:=Fx.zc1 s0;clear hn5 hg5;generalize Fx.nNum s0=y1 at HGm HLn HF5 hl5 ⊢;obtain ⟨p1,s1⟩:=y1;simp only at HGm HLn HF5 hl5;obtain ⟨a0,a1,a2,az⟩:=zoh HX5.out
         have af:∀ j,xw5.frozen? ⟨X,j,none⟩=false:=fun j=>vep HX5.out j
         have HX6:Hid ((xw5.setCell ⟨X,1,none⟩ (.int .i64 p1)).heap[X]? = some (.cells #[.int .i64 p0,.int .i64 p1,.int .i64 0] 69)):=zag HX5.out _;have HF6:=hid (HF5.out.far (X:=X) (i:=1) (u:=.int .i64 p1) (by omega));have HO6:=hid (zvx HO5.out (a:=⟨X,1,none⟩) (u:=.int .i64 p1) (fun k hk=>by have:=HG.out k hk;show k≠X;omega));generalize hW6:xw5.setCell ⟨X,1,none⟩ (.int .i64 p1)=xW6 at *;go_wp2_with fail
         try rw [hW6]
         clear hW6 a0 a1 a2 az af;have hX6:X<xW6.heap.size:=zab HX6.out;refine (Fx.zcn _ _ _ HF6.out.nose (by omega)).mono ?_;rintro e xw7 ⟨rfl,hn7,hg7⟩;have HF7:=hid (HF6.out.grown hg7 hn7);have HO7:=hid (zbc HO6.out hg7 (by have:=HF.out.nC;have:=HF.out.cC;omega));have HX7:Hid (xw7.heap[X]? = some (.cells #[.int .i64 p0,.int .i64 p1,.int .i64 0] 69)):=(hg7.block _ hX6 (fun e=>by have:=HF.out.nC;have:=HF.out.cC;have:=vac e;omega)).trans HX6.out;have hl7:=Fx.zc1 s1;clear hn7 hg7;generalize Fx.nNum s1=y2 at HGm HLn HF7 hl7 ⊢;obtain ⟨p2,s2⟩:=y2;simp only at HGm HLn HF7 hl7;obtain ⟨a0,a1,a2,az⟩:=zoh HX7.out
         have af:∀ j,xw7.frozen? ⟨X,j,none⟩=false:=fun j=>vep HX7.out j
         have HX8:Hid ((xw7.setCell ⟨X,2,none⟩ (.int .i64 p2)).heap[X]? = some (.cells #[.int .i64 p0,.int .i64 p1,.int .i64 p2] 69)):=zag HX7.out _;have HF8:=hid (HF7.out.far (X:=X) (i:=2) (u:=.int .i64 p2) (by omega));have HO8:=hid (zvx HO7.out (a:=⟨X,2,none⟩) (u:=.int .i64 p2) (fun k hk=>by have:=HG.out k hk;show k≠X;omega));generalize hW8:xw7.setCell ⟨X,2,none⟩ (.int .i64 p2)=xW8 at *;obtain ⟨b0,b1,b2,bz⟩:=zoh HX8.out;obtain ⟨k0,k1,k2,k3,k4,k5,k6,kz⟩:=zaj HF8.out.cb
         have kf:∀ j,xW8.frozen? ⟨C,j,none⟩=false:=fun j=>vep HF8.out.cb j
         have hz8:=HF8.out.sz
         go_wp2_with (at_builtin;(refine zfd rfl (.tmp 64) (.tmp 66) 59 rfl w5.heap.size 69 _ 3 24 Tryz.underlying59 Tryz.infoInstr rfl (by decide) xW8 u acc.length (zln acc) rfl HO8.out #[.int .i64 p0,.int .i64 p1,.int .i64 p2] _ rfl rfl rfl (zw4 ⟨p0,p1,p2⟩) (by omega) (by decide) (by omega) ?_);intro g9 c9 xw9 ho9 hb9 hz9 hkp9 hkb9;have HF9:=hid (HF8.out.belowB hb9 (vaa _));have HO9:=hid ho9;obtain ⟨j0,j1,j2,j3,j4,j5,j6,jz⟩:=zaj HF9.out.cb;have jf:∀ j,xw9.frozen? ⟨C,j,none⟩=false:=fun j=>vep HF9.out.cb j;clear ho9 hb9 hz9 hkp9 hkb9)
         go_roundw
         case rel=>exact ⟨m',s2,acc++[⟨p0,p1,p2⟩],_,by first | rfl | (rw [hmi]) | go_num,by rw [vab,vbc];omega,HLn.out,HGm.out,HF9.out.put 3 _,zba (by rw [vab,vbc,znc];exact HO9.out) (by show C<_;exact HF.out.cC)⟩
         case measure=>simp [intOf]
       | false =>
         have A3:Hid (fr4 l=(acc,(sl,bad))):=by show _=_;rw [← HGo.out];exact zp1 HBB.out
         obtain ⟨x3,y3,rfl,hcap3, -⟩:=zau HO.out;have C3:=hid hcap3;have K3:=hid HO.out;have K1:=hid (HF.out.row K1.out (by omega));have T6:Hid (((sl,bad):Ns).1.length<=l.length):=hst;have hBK3:C<w5.heap.size:=HF.out.cC;have HF6:=hid HF.out.restart
         obtain ⟨st6,hst6⟩:∃ s:Ns,(sl,bad)=s:=⟨_,rfl⟩
         rw [hst6] at A3 T6 HF6;generalize hz3:acc=z3 at *;clear hz3 hst6 HO HGo HBB HF hm hst hcap3 hsz;clear q0 q1 q2 q3 q4 q5 q6 qz qf nl n1;go_wp2_with fail;refine (ze5 _ _ _ HF6.out.nose (by have:=T6.out;omega)).mono ?_;rintro e w7 ⟨rfl,hn7,hg7⟩;have HF7:=hid (HF6.out.grown hg7 hn7).restart;have K1:=hid ((HF6.out.grown hg7 hn7).row K1.out (by omega));have K3:=hid ((HF6.out.grown hg7 hn7).row K3.out (by omega))
         have HQ7:Hid (∀ {α:Type} (q:Ns->α × Ns),nLst q st6=nGo q (nCnt st6).1.toNat [] (nCnt st6).2):=fun q=>rfl
         have hlo7:=zlw st6;have T7:Hid ((nCnt st6).2.1.length<=l.length):=vai hlo7.2.2 T6.out;generalize nCnt st6=c7 at *;obtain ⟨ci7,st7⟩:=c7;simp only at HQ7 hlo7 HF7 T7
         obtain ⟨m7,hm7⟩:∃ m:Nat,ci7=(m:Int):=⟨ci7.toNat,by omega⟩
         subst hm7;rw [vbm] at HQ7
         have hm7:m7<=32768:=by omega
         clear hn7 hg7 hlo7
         have HI7:Hid (nGo zhx m7 [] st7=fr5 l):=by show _=fr5 l;unfold fr5;rw [A3.out];exact (HQ7.out zhx).symm
         clear HQ7;go_wp2_with fail
         go_loopw [9] (fun i wr=>∃ (m:Nat) (st:Ns) (acc:List Gf) (u:Value),i = .int .i64 m/\acc.length+m<=32768/\st.1.length<=l.length/\nGo zhx m acc st=fr5 l/\Fo w w7 (w.heap.size+1) C #[.string nm,.slice x1 z1.length y1,.int .i64 dd,.slice x3 z3.length y3,u,.slice none 0 0,.int .i64 0] wr st/\wr.ownsRow w7.heap.size 67 3 u acc.length (ztc acc)) (fun i _=>(intOf i).toNat)
         case atStart=>exact ⟨m7,st7,[],_,rfl,by simp;omega,T7.out,HI7.out,HF7.out,ves _ _ _ _⟩
         case round =>
          clear HI7 HF7 T7 hm7;obtain ⟨m,⟨sl,bad⟩,acc,u,rfl,hm,hst,hgo,hF,hrow⟩:=hrel;simp only at hst;have HF:=hid hF;have HO:=hid hrow;have HGo:=hid hgo;have hsz:=hF.sz;obtain ⟨q0,q1,q2,q3,q4,q5,q6,qz⟩:=zaj hF.cb
          have qf:∀ j,wr.frozen? ⟨C,j,none⟩=false:=fun j=>vep HF.out.cb j
          obtain ⟨nl,n0,n1, -, -⟩:=hF.nose;simp only at n1;clear hF hrow hgo n0
          obtain ⟨bb,hbb⟩:∃ bb,(decide (0<(m:Int)) && !bad)=bb:=⟨_,rfl⟩
          have HBB:=hid hbb;go_upto_region 16 with fail
          go_cut [79] (fun v wc=>v = .bool bb/\wc=wr)
          case first=>
           clear HBB
           rcases vce m with rfl | hm0
           . have hd:bb=false:=by rw [← hbb];rfl
             rw [show ((0:Nat):Int)=0 from rfl];clear hbb hm;go_wp2_with fail;go_meet;exact ⟨by rw [hd],rfl⟩
           . have hm1:(0:Int)<m:=by omega
             have hd:decide ((0:Int)<m)=true:=decide_eq_true hm1;rw [hd,vdb] at hbb;clear hm hm0;go_wp2_with fail;go_meet;exact ⟨by rw [← hbb],rfl⟩
          case rest =>
           obtain ⟨rfl,rfl⟩:=hcut;clear hbb
           cases bb with
           | true=>
             obtain ⟨rfl,m',rfl,hgm⟩:=zk7 (q:=zhx) (acc:=acc) (l:=sl) HBB.out;have HGm:Hid (nGo zhx m' (acc++[(zhx (sl,false)).1]) (zhx (sl,false)).2=fr5 l):=hgm.symm.trans HGo.out
             have hmi:((m'+1:Nat):Int) - 1=m':=by omega
             clear hgm HGo HBB;have hl1:sl.length<=l.length:=hst;have HLn:Hid ((zhx (sl,false)).2.1.length<=l.length):=vai (zly (sl,false)).2 hst;have hq:zhx (sl,false)=(⟨(Fx.nNum (sl,false)).1,(Fx.nByte (Fx.nNum (sl,false)).2).1,(Fx.nNum (Fx.nByte (Fx.nNum (sl,false)).2).2).1⟩,(Fx.nNum (Fx.nByte (Fx.nNum (sl,false)).2).2).2):=rfl;rw [hq] at HGm HLn;clear hq;go_wp2_with fail;refine (Fx.zcn _ _ _ HF.out.nose (by show sl.length<=_;omega)).mono ?_;rintro e xw3 ⟨rfl,hn3,hg3⟩;have HF3:=hid (HF.out.grown hg3 hn3);have HO3:=hid (zbc HO.out hg3 (by have:=HF.out.nC;have:=HF.out.cC;omega));have hl3:=Fx.zc1 (sl,false);simp only at hl3;have hsz3:=HF3.out.sz;clear hn3 hg3 q0 q1 q2 q3 q4 q5 q6 qz qf nl n1;generalize Fx.nNum (sl,false)=y0 at HGm HLn HF3 hl3 ⊢;obtain ⟨p0,s0⟩:=y0;simp only at HGm HLn HF3 hl3;have HX:=hid (heap_newP xw3 (.cells #[.int .i64 p0,.int .i64 0,.int .i64 0] 67))
             have HF4:=hid (HF3.out.later (al1 xw3 (.cells #[.int .i64 p0,.int .i64 0,.int .i64 0] 67)));have HO4:=hid (ownsRow_later HO3.out (al1 xw3 (.cells #[.int .i64 p0,.int .i64 0,.int .i64 0] 67)));have HG:=hid (fun k (hk:u.ownBlock=some k)=>(HO3.out.lt k hk).2)
             obtain ⟨xW4,hW4⟩:∃ xW4:World,xw3.alloc (.cells #[.int .i64 p0,.int .i64 0,.int .i64 0] 67)=xW4:=⟨_,rfl⟩
             rw [hW4] at HX HF4 HO4;have hX4:xw3.heap.size<xW4.heap.size:=zab HX.out;have HW4:=hid hW4;clear hW4;go_wp2_with fail;rw [HW4.out];clear HW4;generalize xw3.heap.size=X at *;refine (Fx.zfu _ _ _ HF4.out.nose (by omega)).mono ?_;rintro e xw5 ⟨rfl,hn5,hg5⟩;have HF5:=hid (HF4.out.grown hg5 hn5);have HO5:=hid (zbc HO4.out hg5 (by have:=HF.out.nC;have:=HF.out.cC;omega));have HX5:Hid (xw5.heap[X]? = some (.cells #[.int .i64 p0,.int .i64 0,.int .i64 0] 67)):=(hg5.block _ hX4 (fun e=>by have:=HF.out.nC;have:=HF.out.cC;have:=vac e;omega)).trans HX.out;have hl5:=Fx.zet s0;clear hn5 hg5;generalize Fx.nByte s0=y1 at HGm HLn HF5 hl5 ⊢;obtain ⟨p1,s1⟩:=y1;simp only at HGm HLn HF5 hl5;obtain ⟨a0,a1,a2,az⟩:=zoh HX5.out
             have af:∀ j,xw5.frozen? ⟨X,j,none⟩=false:=fun j=>vep HX5.out j
             have HX6:Hid ((xw5.setCell ⟨X,1,none⟩ (.int .i64 p1)).heap[X]? = some (.cells #[.int .i64 p0,.int .i64 p1,.int .i64 0] 67)):=zag HX5.out _;have HF6:=hid (HF5.out.far (X:=X) (i:=1) (u:=.int .i64 p1) (by omega));have HO6:=hid (zvx HO5.out (a:=⟨X,1,none⟩) (u:=.int .i64 p1) (fun k hk=>by have:=HG.out k hk;show k≠X;omega));generalize hW6:xw5.setCell ⟨X,1,none⟩ (.int .i64 p1)=xW6 at *;go_wp2_with fail
             try rw [hW6]
             clear hW6 a0 a1 a2 az af;have hX6:X<xW6.heap.size:=zab HX6.out;refine (Fx.zcn _ _ _ HF6.out.nose (by omega)).mono ?_;rintro e xw7 ⟨rfl,hn7,hg7⟩;have HF7:=hid (HF6.out.grown hg7 hn7);have HO7:=hid (zbc HO6.out hg7 (by have:=HF.out.nC;have:=HF.out.cC;omega));have HX7:Hid (xw7.heap[X]? = some (.cells #[.int .i64 p0,.int .i64 p1,.int .i64 0] 67)):=(hg7.block _ hX6 (fun e=>by have:=HF.out.nC;have:=HF.out.cC;have:=vac e;omega)).trans HX6.out;have hl7:=Fx.zc1 s1;clear hn7 hg7;generalize Fx.nNum s1=y2 at HGm HLn HF7 hl7 ⊢;obtain ⟨p2,s2⟩:=y2;simp only at HGm HLn HF7 hl7;obtain ⟨a0,a1,a2,az⟩:=zoh HX7.out
             have af:∀ j,xw7.frozen? ⟨X,j,none⟩=false:=fun j=>vep HX7.out j
             have HX8:Hid ((xw7.setCell ⟨X,2,none⟩ (.int .i64 p2)).heap[X]? = some (.cells #[.int .i64 p0,.int .i64 p1,.int .i64 p2] 67)):=zag HX7.out _;have HF8:=hid (HF7.out.far (X:=X) (i:=2) (u:=.int .i64 p2) (by omega));have HO8:=hid (zvx HO7.out (a:=⟨X,2,none⟩) (u:=.int .i64 p2) (fun k hk=>by have:=HG.out k hk;show k≠X;omega));generalize hW8:xw7.setCell ⟨X,2,none⟩ (.int .i64 p2)=xW8 at *;obtain ⟨b0,b1,b2,bz⟩:=zoh HX8.out;obtain ⟨k0,k1,k2,k3,k4,k5,k6,kz⟩:=zaj HF8.out.cb
             have kf:∀ j,xW8.frozen? ⟨C,j,none⟩=false:=fun j=>vep HF8.out.cb j
             have hz8:=HF8.out.sz
             go_wp2_with (at_builtin;(refine zfd rfl (.tmp 92) (.tmp 94) 60 rfl w7.heap.size 67 _ 3 24 Tryz.underlying60 Tryz.infoFix rfl (by decide) xW8 u acc.length (ztc acc) rfl HO8.out #[.int .i64 p0,.int .i64 p1,.int .i64 p2] _ rfl rfl rfl (z2b ⟨p0,p1,p2⟩) (by omega) (by decide) (by omega) ?_);intro g9 c9 xw9 ho9 hb9 hz9 hkp9 hkb9;have HF9:=hid (HF8.out.belowB hb9 (vaa _));have HO9:=hid ho9;obtain ⟨j0,j1,j2,j3,j4,j5,j6,jz⟩:=zaj HF9.out.cb;have jf:∀ j,xw9.frozen? ⟨C,j,none⟩=false:=fun j=>vep HF9.out.cb j;clear ho9 hb9 hz9 hkp9 hkb9)
             go_roundw
             case rel=>exact ⟨m',s2,acc++[⟨p0,p1,p2⟩],_,by first | rfl | (rw [hmi]) | go_num,by rw [vab,vbc];omega,HLn.out,HGm.out,HF9.out.put 4 _,zba (by rw [vab,vbc,znd];exact HO9.out) (by show C<_;exact HF.out.cC)⟩
             case measure=>simp [intOf]
           | false=>
             have A4:Hid (fr5 l=(acc,(sl,bad))):=by show _=_;rw [← HGo.out];exact zp1 HBB.out
             obtain ⟨x4,y4,rfl,hcap4, -⟩:=zau HO.out;have C4:=hid hcap4;have K4:=hid HO.out;have K1:=hid (HF.out.row K1.out (by omega));have K3:=hid (HF.out.row K3.out (by omega));have T8:Hid (((sl,bad):Ns).1.length<=l.length):=hst;have hBK4:C<w7.heap.size:=HF.out.cC;have HF8:=hid HF.out.restart
             obtain ⟨st8,hst8⟩:∃ s:Ns,(sl,bad)=s:=⟨_,rfl⟩
             rw [hst8] at A4 T8 HF8;generalize hz4:acc=z4 at *;clear hz4 hst8 HO HGo HBB HF hm hst hcap4 hsz;clear q0 q1 q2 q3 q4 q5 q6 qz qf nl n1;go_wp2_with fail;refine (ze5 _ _ _ HF8.out.nose (by have:=T8.out;omega)).mono ?_;rintro e w9 ⟨rfl,hn9,hg9⟩;have HF9:=hid (HF8.out.grown hg9 hn9).restart;have K1:=hid ((HF8.out.grown hg9 hn9).row K1.out (by omega));have K3:=hid ((HF8.out.grown hg9 hn9).row K3.out (by omega));have K4:=hid ((HF8.out.grown hg9 hn9).row K4.out (by omega))
             have HQ9:Hid (∀ {α:Type} (q:Ns->α × Ns),nLst q st8=nGo q (nCnt st8).1.toNat [] (nCnt st8).2):=fun q=>rfl
             have hlo9:=zlw st8;have T9:Hid ((nCnt st8).2.1.length<=l.length):=vai hlo9.2.2 T8.out;generalize nCnt st8=c9 at *;obtain ⟨ci9,st9⟩:=c9;simp only at HQ9 hlo9 HF9 T9
             obtain ⟨m9,hm9⟩:∃ m:Nat,ci9=(m:Int):=⟨ci9.toNat,by omega⟩
             subst hm9;rw [vbm] at HQ9
             have hm9:m9<=32768:=by omega
             clear hn9 hg9 hlo9
             have HI9:Hid (nGo Fx.nNum m9 [] st9=fr6 l):=by show _=fr6 l;unfold fr6;rw [A4.out];exact (HQ9.out Fx.nNum).symm
             clear HQ9;go_wp2_with fail
             go_loopw [11] (fun i wr=>∃ (m:Nat) (st:Ns) (acc:List Int) (u:Value),i = .int .i64 m/\acc.length+m<=32768/\st.1.length<=l.length/\nGo Fx.nNum m acc st=fr6 l/\Fo w w9 (w.heap.size+1) C #[.string nm,.slice x1 z1.length y1,.int .i64 dd,.slice x3 z3.length y3,.slice x4 z4.length y4,u,.int .i64 0] wr st/\wr.ownsRow w9.heap.size 3 1 u acc.length (intV acc)) (fun i _=>(intOf i).toNat)
             case atStart=>exact ⟨m9,st9,[],_,rfl,by simp;omega,T9.out,HI9.out,HF9.out,ves _ _ _ _⟩
             case round=>
              clear HI9 HF9 T9 hm9;obtain ⟨m,⟨sl,bad⟩,acc,u,rfl,hm,hst,hgo,hF,hrow⟩:=hrel;simp only at hst;have HF:=hid hF;have HO:=hid hrow;have HGo:=hid hgo;have hsz:=hF.sz;obtain ⟨q0,q1,q2,q3,q4,q5,q6,qz⟩:=zaj hF.cb
              have qf:∀ j,wr.frozen? ⟨C,j,none⟩=false:=fun j=>vep HF.out.cb j
              obtain ⟨nl,n0,n1, -, -⟩:=hF.nose;simp only at n1;clear hF hrow hgo n0
              obtain ⟨bb,hbb⟩:∃ bb,(decide (0<(m:Int)) && !bad)=bb:=⟨_,rfl⟩
              have HBB:=hid hbb;go_upto_region 23 with fail
              go_cut [107] (fun v wc=>v = .bool bb/\wc=wr)
              case first=>
               clear HBB
               rcases vce m with rfl | hm0
               . have hd:bb=false:=by rw [← hbb];rfl
                 rw [show ((0:Nat):Int)=0 from rfl];clear hbb hm;go_wp2_with fail;go_meet;exact ⟨by rw [hd],rfl⟩
               . have hm1:(0:Int)<m:=by omega
                 have hd:decide ((0:Int)<m)=true:=decide_eq_true hm1;rw [hd,vdb] at hbb;clear hm hm0;go_wp2_with fail;go_meet;exact ⟨by rw [← hbb],rfl⟩
              case rest=>
               obtain ⟨rfl,rfl⟩:=hcut;clear hbb
               cases bb with
               | true=>
                 obtain ⟨rfl,m',rfl,hgm⟩:=zk7 (q:=Fx.nNum) (acc:=acc) (l:=sl) HBB.out;have HGm:Hid (nGo Fx.nNum m' (acc++[(Fx.nNum (sl,false)).1]) (Fx.nNum (sl,false)).2=fr6 l):=hgm.symm.trans HGo.out
                 have hmi:((m'+1:Nat):Int) - 1=m':=by omega
                 clear hgm HGo HBB
                 have HE:Hid (∀ W,Fx.Nose W (w.heap.size+1) (sl,false)->Calls Tryz.prog 100 #[.pointer (some ⟨w.heap.size+1,0,none⟩)] W fun e w'=>∃ v,e = .returned v/\(v = .int .i64 (Fx.nNum (sl,false)).1/\Fx.Nose w' (w.heap.size+1) (Fx.nNum (sl,false)).2/\W.grownBy w' (some (w.heap.size+1)))):=fun W h=>((Fx.zcn _ _ W h (by show sl.length<=_;omega)).mono (fun e w' h=>⟨_,h.1,rfl,h.2.1,h.2.2⟩))
                 have HLn:Hid ((Fx.nNum (sl,false)).2.1.length<=l.length):=vai (zp0 (sl,false)).2 hst;have HFd:=hid (HF.out.later (w':=wc.drew) ((Below.refl _ _).drew));have HOd:=hid (ownsRow_later HO.out (W':=wc.drew) ((Below.refl _ _).drew));go_wp2_with fail
                 go_region_law (first
                  | (refine zb4 (by rfl) 100 _ _ (by rfl) z58 _ (by rfl) (HE.out _ HFd.out.nose) ?_
                     rintro v8 w8 ⟨rfl,hn8,hg8⟩;have HF8:=hid (HFd.out.grown hg8 hn8);have HO8:=hid (zbc HOd.out hg8 (by have:=HF.out.nC;have:=HF.out.cC;omega));obtain ⟨k0,k1,k2,k3,k4,k5,k6,kz⟩:=zaj HF8.out.cb
                     have kf:∀ j,w8.frozen? ⟨C,j,none⟩=false:=fun j=>vep HF8.out.cb j
                     have hz8:=HF8.out.sz
                     clear hn8 hg8)
                  | (refine zhg (by rfl) _ _ 49 (by rfl) w9.heap.size 3 _ 1 8 Tryz.underlying49 Tryz.infoInt rfl (by decide) w8 _ acc.length (intV acc) (by rfl) HO8.out #[.int .i64 (Fx.nNum (sl,false)).1] _ rfl (by rfl) rfl (z1r _) (by omega) (by decide) (by omega) _ (by rfl) ?_
                     intro g9 c9 w9 ho9 hb9 hz9 hkp9 hkb9;have HF9:=hid (HF8.out.belowB hb9 (vaa _));have HO9:=hid ho9;obtain ⟨j0,j1,j2,j3,j4,j5,j6,jz⟩:=zaj HF9.out.cb
                     have jf:∀ j,w9.frozen? ⟨C,j,none⟩=false:=fun j=>vep HF9.out.cb j
                     clear ho9 hb9 hz9 hkp9 hkb9))
                 all_goals
                  clear HE;go_wp2_with fail;go_roundw
                  case rel=>exact ⟨m',(Fx.nNum (sl,false)).2,acc++[(Fx.nNum (sl,false)).1],_,by first | rfl | (rw [hmi]) | go_num,by rw [vab,vbc];omega,HLn.out,HGm.out,HF9.out.put 5 _,zba (by rw [vab,vbc,zmc];exact HO9.out) (by show C<_;exact HF.out.cC)⟩
                  case measure=>simp [intOf]
               | false=>
                 have A5:Hid (fr6 l=(acc,(sl,bad))):=by show _=_;rw [← HGo.out];exact zp1 HBB.out
                 obtain ⟨x5,y5,rfl,hcap5, -⟩:=zau HO.out;have C5:=hid hcap5;have K5:=hid HO.out;have K1:=hid (HF.out.row K1.out (by omega));have K3:=hid (HF.out.row K3.out (by omega));have K4:=hid (HF.out.row K4.out (by omega));have T10:Hid (((sl,bad):Ns).1.length<=l.length):=hst;have hBK5:C<w9.heap.size:=HF.out.cC;have HF10:=hid HF.out.restart
                 obtain ⟨st10,hst10⟩:∃ s:Ns,(sl,bad)=s:=⟨_,rfl⟩
                 rw [hst10] at A5 T10 HF10;generalize hz5:acc=z5 at *;clear hz5 hst10 HO HGo HBB HF hm hst hcap5 hsz;clear q0 q1 q2 q3 q4 q5 q6 qz qf nl n1;go_wp2_with fail;refine (Fx.zcn _ _ _ HF10.out.nose (by have:=T10.out;omega)).mono ?_;rintro e w11 ⟨rfl,hn11,hg11⟩;have HFa:=hid (HF10.out.grown hg11 hn11);have T11:Hid ((Fx.nNum st10).2.1.length<=l.length):=vai (Fx.zc1 _) T10.out
                 have Am:Hid (fr7 l=Fx.nNum st10):=by show fr7 l=_;unfold fr7;rw [A5.out]
                 generalize Fx.nNum st10=c11 at *;obtain ⟨dm,st11⟩:=c11;simp only at HFa T11;have K1:=hid (HFa.out.row K1.out (by omega));have K3:=hid (HFa.out.row K3.out (by omega));have K4:=hid (HFa.out.row K4.out (by omega));have K5:=hid (HFa.out.row K5.out (by omega));obtain ⟨q0,q1,q2,q3,q4,q5,q6,qz⟩:=zaj HFa.out.cb
                 have qf:∀ j,w11.frozen? ⟨C,j,none⟩=false:=fun j=>vep HFa.out.cb j
                 have HF11:Hid (Fo w (w11.setCell ⟨C,6,none⟩ (.int .i64 dm)) (w.heap.size+1) C #[.string nm,.slice x1 z1.length y1,.int .i64 dd,.slice x3 z3.length y3,.slice x4 z4.length y4,.slice x5 z5.length y5,.int .i64 dm] (w11.setCell ⟨C,6,none⟩ (.int .i64 dm)) st11):=(HFa.out.put 6 (.int .i64 dm)).restart;have K1:=hid (zba K1.out (a:=⟨C,6,none⟩) (u:=.int .i64 dm) (by show C<_;omega));have K3:=hid (zba K3.out (a:=⟨C,6,none⟩) (u:=.int .i64 dm) (by show C<_;omega));have K4:=hid (zba K4.out (a:=⟨C,6,none⟩) (u:=.int .i64 dm) (by show C<_;omega));have K5:=hid (zba K5.out (a:=⟨C,6,none⟩) (u:=.int .i64 dm) (by show C<_;omega));generalize hWv:w11.setCell ⟨C,6,none⟩ (.int .i64 dm)=W11 at *;clear hn11 hg11 HFa
                 have HFr:Hid (frO l=⟨nm,z1,dd,z3,z4,z5,dm⟩):=by show frO l=_;unfold frO;rw [E1.out,A1.out,Ad.out,A3.out,A4.out,A5.out,Am.out]
                 have hB9:Hid ((fr7 l).2=st11):=by show _=_;rw [Am.out]
                 have HOv:Hid (OvLo W11 (C+1) ⟨nm,z1,dd,z3,z4,z5,dm⟩ x1 x3 x4 x5):=z59 (o:=⟨nm,z1,dd,z3,z4,z5,dm⟩) K1.out K3.out K4.out K5.out (by omega) (by omega) (by omega) (by omega) (by have:=zvw l;rw [HFr.out] at this;exact this) (by have:=zzd l;rw [HFr.out] at this;exact this);have HC1:=hid C1.out;obtain ⟨o0,o1,o2,o3,o4,o5,o6,oz⟩:=zaj HF11.out.cb;obtain ⟨r0,r1,r2,r3,r4,r5,r6,rz⟩:=zaj HF11.out.zb
                 have rf:∀ j,W11.frozen? ⟨w.heap.size,j,none⟩=false:=fun j=>vep HF11.out.zb j
                 have hne:¬ (w.heap.size=C):=by have:=HF11.out.n0;have:=HF11.out.nC;omega
                 have HCr:Hid (w.heap.size<C):=by have:=HF11.out.n0;have:=HF11.out.nC;show _<_;omega
                 obtain ⟨sl,bad⟩:=st11;obtain ⟨nl,n0,n1, -, -⟩:=HF11.out.nose;simp only at n1;have HBe:=hid HF11.out.be;have HZb:=hid HF11.out.zb;have HCb:=hid HF11.out.cb;clear n0 K1 K3 K4 K5 A1 A3 A4 A5 Ad Am E1;have HCr':=HCr
                 obtain ⟨ok,hok⟩:∃ ok,zvu l=ok:=⟨_,rfl⟩
                 have HOk:=hid hok;go_upto_region 27 with fail
                 try rw [hWv]
                 clear q0 q1 q2 q3 q4 q5 q6 qz qf hWv
                 go_cut [134] (fun v wc=>v = .bool (!ok)/\Hid (Below W11.heap.size W11 wc))
                 case first=>
                  clear r0 r1 r2 r3 r4 r5 r6 rz rf
                  cases bad with
                  | true=>
                    have hof:ok=false:=by rw [← hok];unfold zvu;rw [hB9.out];rfl
                    clear hok;go_wp2_with fail;go_meet;exact ⟨by rw [hof];rfl,Below.refl _ _⟩
                  | false=>
                    obtain ⟨cc,hcc⟩:∃ c,oChk ⟨nm,z1,dd,z3,z4,z5,dm⟩=c:=⟨_,rfl⟩
                    have HCk:=hid (zgx ⟨nm,z1,dd,z3,z4,z5,dm⟩ x1 y1 x3 y3 x4 y4 x5 y5 W11 HOv.out.ov);rw [hcc] at HCk
                    by_cases hc0:cc=0
                    case neg=>
                     have hof:ok=false:=by rw [← hok];unfold zvu;rw [HFr.out,hcc,decide_eq_false hc0];simp
                     have hcb:(cc != 0)=true:=by rw [bne_iff_ne];exact hc0
                     have hcb':(cc == 0)=false:=by simpa using hc0
                     clear hc0 hcc hok;go_wp2_with fail;refine HCk.out.mono ?_;rintro e w9 ⟨rfl,hb9⟩;have HB9:=hid hb9;clear hb9 o0 o1 o2 o3 o4 o5 o6 oz;go_wp2_with fail;go_meet;exact ⟨by rw [hof];rfl,HB9.out⟩
                    subst hc0;have HOB:=hid (fun W (h:Below W11.heap.size W11 W)=>zgz ⟨nm,z1,dd,z3,z4,z5,dm⟩ x1 y1 x3 y3 x4 y4 x5 y5 W (HOv.out.ov.later h) hcc)
                    obtain ⟨sb,hsb⟩:∃ s,Fx.strOf (objB ⟨nm,z1,dd,z3,z4,z5,dm⟩)=s:=⟨_,rfl⟩
                    rw [hsb] at HOB
                    obtain ⟨be,hbe⟩:∃ b,(sb.toList == (Fx.strOf l).toList)=b:=⟨_,rfl⟩
                    have hof:ok=be:=by
                     rw [← hok,← hbe,← hsb,vba,vba,Fx.strOf_list,Fx.strOf_list];unfold zvu;rw [hB9.out,HFr.out,hcc];rw [vcq];simp
                    clear hcc hok hsb;go_wp2_with fail;refine HCk.out.mono ?_;rintro e w9 ⟨rfl,hb9⟩;have HB9:=hid hb9;clear o0 o1 o2 o3 o4 o5 o6 oz;obtain ⟨o0,o1,o2,o3,o4,o5,o6,oz⟩:=zaj (zak HCb.out hb9);clear hb9;go_wp2_with fail;refine (HOB.out _ HB9.out).mono ?_;rintro e w8 ⟨rfl,hb8⟩;have HB8:=hid (thenB HB9.out hb8);clear hb8 o0 o1 o2 o3 o4 o5 o6 oz;go_wp2_with fail;go_meet;exact ⟨by rw [hof];try simp [bne,hbe],HB8.out⟩
                 case rest=>
                  obtain ⟨rfl,HBc⟩:=hcut;clear r0 r1 r2 r3 r4 r5 r6 rz rf o0 o1 o2 o3 o4 o5 o6 oz nl n1 hok hne;have HBw:=hid (HBe.out.trans (HBc.out.mono HBe.out.size));have HZc:=hid (zak HZb.out HBc.out);obtain ⟨r0,r1,r2,r3,r4,r5,r6,rz⟩:=zaj (zak HZb.out HBc.out)
                  have rf:∀ j,wc.frozen? ⟨w.heap.size,j,none⟩=false:=fun j=>vep (zak HZb.out HBc.out) j
                  cases ok with
                  | false=>
                    have HFin:Hid (z20 w l (.returned (.tuple #[zV,.bool false])) (zvn wc w.heap.size (.string ⟨#[]⟩) (.slice none 0 0) (.int .i64 0) (.slice none 0 0) (.slice none 0 0) (.slice none 0 0) (.int .i64 0))):=⟨zco HBw.out (vaa _) (.string ⟨#[]⟩) (.slice none 0 0) (.int .i64 0) (.slice none 0 0) (.slice none 0 0) (.slice none 0 0) (.int .i64 0),Or.inl ⟨HOk.out,rfl⟩⟩
                    clear HBw HBc HOk HOv HFr hB9 HC1 HBe HZb HCb;go_upto_region 28 with fail
                    go_cut [3] (fun v wd=>v = .bool false/\wd=zvn wc w.heap.size (.string ⟨#[]⟩) (.slice none 0 0) (.int .i64 0) (.slice none 0 0) (.slice none 0 0) (.slice none 0 0) (.int .i64 0))
                    case first=>
                     go_wp2_with fail;go_meet;exact ⟨rfl,rfl⟩
                    case rest=>
                     obtain ⟨rfl,rfl⟩:=hcut;obtain ⟨t0,t1,t2,t3,t4,t5,t6,tz⟩:=zaj (zxa HZc.out (.string ⟨#[]⟩) (.slice none 0 0) (.int .i64 0) (.slice none 0 0) (.slice none 0 0) (.slice none 0 0) (.int .i64 0))
                     rename_i hKr
                     exact hKr _ _ (wp_ret (bodyPost_ret (v:=.tuple #[zV,.bool false]) (by simp [results,Tryz.results39,go_sem,t0,t1,t2,t3,t4,t5,t6]) rfl HFin.out))
                  | true=>
                    obtain ⟨o0,o1,o2,o3,o4,o5,o6,oz⟩:=zaj (zak HCb.out HBc.out)
                    have hne:¬ (w.heap.size=C):=by have:=HCr'.out;omega
                    have HFin:Hid (z20 w l (.returned (.tuple #[.agg #[.string nm,.slice x1 z1.length y1,.int .i64 dd,.slice x3 z3.length y3,.slice x4 z4.length y4,.slice x5 z5.length y5,.int .i64 dm],.bool true])) (zvn wc w.heap.size (.string nm) (.slice x1 z1.length y1) (.int .i64 dd) (.slice x3 z3.length y3) (.slice x4 z4.length y4) (.slice x5 z5.length y5) (.int .i64 dm))):=⟨zco HBw.out (vaa _) (.string nm) (.slice x1 z1.length y1) (.int .i64 dd) (.slice x3 z3.length y3) (.slice x4 z4.length y4) (.slice x5 z5.length y5) (.int .i64 dm),Or.inr ⟨HOk.out,_,rfl,by rw [HFr.out];exact ⟨x1,y1,x3,y3,x4,y4,x5,y5,rfl,z76 HOv.out HBc.out HCr'.out (.string nm) (.slice x1 z1.length y1) (.int .i64 dd) (.slice x3 z3.length y3) (.slice x4 z4.length y4) (.slice x5 z5.length y5) (.int .i64 dm),HC1.out⟩⟩⟩
                    clear HBw HBc HOk HOv HFr hB9 HC1 HBe HZb HCb;go_upto_region 29 with fail
                    go_cut [3] (fun v wd=>v = .bool true/\wd=zvn wc w.heap.size (.string nm) (.slice x1 z1.length y1) (.int .i64 dd) (.slice x3 z3.length y3) (.slice x4 z4.length y4) (.slice x5 z5.length y5) (.int .i64 dm))
                    case first=>
                     go_wp2_with fail;go_meet;exact ⟨rfl,rfl⟩
                    case rest=>
                     obtain ⟨rfl,rfl⟩:=hcut;obtain ⟨t0,t1,t2,t3,t4,t5,t6,tz⟩:=zaj (zxa HZc.out (.string nm) (.slice x1 z1.length y1) (.int .i64 dd) (.slice x3 z3.length y3) (.slice x4 z4.length y4) (.slice x5 z5.length y5) (.int .i64 dm))
                     rename_i hKr
                     exact hKr _ _ (wp_ret (bodyPost_ret (v:=.tuple #[.agg #[.string nm,.slice x1 z1.length y1,.int .i64 dd,.slice x3 z3.length y3,.slice x4 z4.length y4,.slice x5 z5.length y5,.int .i64 dm],.bool true]) (by simp [results,Tryz.results39,go_sem,t0,t1,t2,t3,t4,t5,t6]) rfl HFin.out))
end Go.Proofs.YtndkhgakfodldaaGreatDoor
