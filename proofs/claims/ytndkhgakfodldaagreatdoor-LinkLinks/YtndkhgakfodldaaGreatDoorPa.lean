import Derived.Test.YtndkhgakfodldaaGreatDoorTd
import Derived.BigQuiet
namespace Go.Proofs.YtndkhgakfodldaaGreatDoor
set_option maxRecDepth 100000
set_option maxHeartbeats 800000
open Go.RowKit
theorem aM{P:Prop}(h:P:=by (obtain ⟨s0,s1,s2,s3,s4,s5,s6,f0,f1,f2,i1⟩:=hW;go_simp)):P:=h
theorem aY{P:Prop}(h:P:=by go_simp):P:=h
theorem bF{P:Prop}(h:P:=by (obtain ⟨s0,s1,s2,s3,s4,s5,s6,s7,s8,s9⟩:=hW;go_simp)):P:=h
theorem ft{P:Prop}(h:P:=by
 (try simp only [Act.put,vae,van,vao])
 obtain ⟨KG,cc4,rfl, -, -⟩:=zag EH.out;obtain ⟨v5,w5,hr5,ho5,hg5,hat5⟩:=zfk w4 w2.heap.size 59 vc (codeL l j) (EZ.out w4 Ap.out) KG cc4 (fxL l o o.fixes.length) (zgj (by rw [zch];exact EH.out)) (by rw [zch];omega) bE;rw [zch] at hr5;obtain ⟨Fq,cc5,rfl, -, -⟩:=zag ho5;generalize Iu:(codeL l j).length+(fxL l o o.fixes.length).length=n5 at *;have Ov:=hid Iu;clear Iu;have Bp:=hid hr5;have Bw:=hid ho5;have Tm:=hid hg5;have J7:=hid hat5;have Cf:=hg5.size;have Ax:=hid (fun (b:Nat) (x:Obj) (hb:X.heap[b]? = some x) (hn:vc.ownBlock≠some b)=>(hg5.block b (vai (lt_of_heap hb) Ap.out.size) (veo hn)).trans ((Ap.out.block b (lt_of_heap hb)).trans hb));have At:=hid ((CT.out.trans (Ap.out.mono ae)).grown hg5 bE (fun k hk=>((EZ.out w4 Ap.out).lt k hk).1))
 clear hr5 ho5 hg5 hat5;refine wpAnyH_ready (rs:=[5]) ah aA ?_;refine AllReadyH.cons (o:=⟨some 32,_,_,_,_,_⟩) rfl ?_ AllReadyH.nil;intro Kq hK;refine step_append_run rfl (.tmp 28) (.tmp 31) 59 rfl vc (.slice KG o.code.length cc4) (.slice Fq n5 cc5) ah ah Bp.out ?_;refine hK.out _ _ (Dy.out _ (Ax.out _ _ AZ Js.out)) (fun A4=>?_);clear hK Kq
 (try simp only [Act.put,vae,van,vao])
 refine tkl 6 (pq M 0) rfl ah (fun _ _ _ h=>h) (fun W hW=>ah) A4 ?_;have hq:=zbz (Ax.out _ _ Hq.out IF.out);have DD:=hq.1;have DC:=hq.2.1;have Et:=hq.2.2;have Jd:M<w5.heap.size:=lt_of_heap (Ax.out _ _ Hq.out IF.out);clear hq;refine wpAnyH_ready (rs:=[7]) ah aA ?_;refine AllReadyH.cons rfl ?_ AllReadyH.nil;intro Kq hK;go_simp;refine hK.out _ _ (Dy.out _ ((heap_set_ne (p:=(qa M 0)) dV _).trans (Ax.out _ _ AZ Js.out))) (fun A4=>?_);clear hK Kq DD DC Et;refine wpAnyH_done ah ?_ _;clear A4;go_simp;generalize Eq:w5.setCell (qa M 0) (.slice Fq n5 cc5)=w6 at *
 have D2:w6.heap[M]? = some (.cells #[.slice Fq n5 cc5,qi (dtL (l.take j))] 81):=eh
 have Hw:w6.heap.size=w5.heap.size:=by rw [← Eq];exact vaq ..
 have JZ:w6.heap[wr.heap.size]? = X.heap[wr.heap.size]?:=bG
 have EG:Hid (w6.ownsRow w2.heap.size 69 3 (.slice Fq n5 cc5) n5 (zeb (codeL l j++fxL l o o.fixes.length))):=br
 have Co:Hid (qb w2 w6):=cB
 have Ox:=hid D2;obtain ⟨m0,m1,mf⟩:=zbz D2;obtain ⟨e0,e1,e2,e3,e4,e5,e6,_⟩:=zam (JZ.trans AZ);have Gj:=lt_of_heap D2;clear Eq D2 JZ e0 e1 e3 e4 e5 e6 AZ Jd;go_wp2_with fail;go_roundw
 case rel=>exact ⟨j+1,_,ae,aR,by rw [Nz];exact heap_set Ox.out _,bj,Hg.out J7.out bE,Co.out.setCell (p:=(qa M 1)) dM _⟩
 case measure=>simp [intOf];omega):P:=h
theorem fw{P:Prop}(h:P:=by
 have HR:Hid (r = .error 1):=An.out.trans (if_neg (by rw [GH.out Jz.out];decide));go_wp2_with fail;refine wp_region_held_drew (S:=(fun W=>W.cell? (qa wr.heap.size 0)=some (.string f.name)/\W.cell? (qa wr.heap.size 1)=some (.slice aj f.items.length cj)/\W.cell? (qa w.heap.size 1)=some (.slice (some (qa bu ou)) m.uses.length c1)/\W.cell? ⟨bu,ou+j,none⟩=some (.string u))) ah FF.out (fun A4=>?_);refine tq 0 29 A4 ?_
 (try simp only [Act.put,vae,van,vao])
 refine wpAnyH_ready (rs:=[1]) ah aA ?_;refine AllReadyH.cons rfl (fun K hK=>?_) AllReadyH.nil;go_simp
 go_wp2_with (go_at_call 19;refine (FJ.out _ (zbg wr _)).mono ?_;rintro e w3 ⟨rfl,A9⟩)
 have Af:=hid (thenB (bdrew (wr.alloc (.cells #[.string f.name,.slice aj f.items.length cj] 30))) A9);clear A9;refine hK.out _ _ (HS.out _ Af.out) (fun A4=>?_);clear hK K;refine tq 2 31 A4 ?_
 (try simp only [Act.put,vae,van,vao])
 refine tq 3 32 A4 ?_
 (try simp only [Act.put,vae,van,vao])
 refine tu 4 33 A4 ?_
 (try simp only [Act.put,vae,van,vao])
 refine tu 5 34 A4 ?_
 (try simp only [Act.put,vae,van,vao])
 refine tu 6 35 A4 ?_
 (try simp only [Act.put,vae,van,vao])
 refine tu 7 36 A4 ?_
 (try simp only [Act.put,vae,van,vao])
 refine tu 8 37 A4 ?_
 (try simp only [Act.put,vae,van,vao])
 refine tu 9 38 A4 ?_
 (try simp only [Act.put,vae,van,vao])
 refine tu 10 39 A4 ?_
 (try simp only [Act.put,vae,van,vao])
 refine tu 11 40 A4 ?_
 (try simp only [Act.put,vae,van,vao])
 refine tq 12 41 A4 ?_
 (try simp only [Act.put,vae,van,vao])
 refine wpAnyH_done ah ?_ _;have Eo:=hid (thenB (thenB Bv.out (al1 wr (.cells #[.string f.name,.slice aj f.items.length cj] 30))) Af.out);have BB:=Af.out.size;simp at BB;have v1:=(Af.out.block _ aF).trans (zab (o:=(.cells #[.string f.name,.slice aj f.items.length cj] 30)) R1.out);clear r0 r1 r2 r3 r4 rf;obtain ⟨r0,r1,r2,r3,r4,rf⟩:=zaa v1;have Eu:=lt_of_heap v1;clear v1;go_wp2_with fail;refine bodyPost_ret (v:=.tuple #[.agg #[.string ⟨#[]⟩,qs,qi 0,qs,qs],qi 1]) b8 rfl ⟨di,?_⟩;exact zd6 Eo.out ae _ _ _ _ _):P:=h
theorem fy{P:Prop}(h:P:=by
 go_wp2_with fail
 go_quiet ((go_at_call 63;exact Calls.quiet_of_same (Ds.out _ _ _ _)))
 go_wp2_with fail;go_ret;exact ⟨aL,thenB Ep.out (zdj (al1 _ _) _)⟩):P:=h
theorem fC{P:Prop}(h:P:=by
 (try simp only [Act.put,vae,van,vao])
 refine wpAnyH_ready (rs:=[16]) ah aA ?_;refine AllReadyH.cons rfl ?_ AllReadyH.nil;intro Kq hK;go_simp
 go_wp2_with (go_at_call 147;refine (HF.out _ BF.out).mono ?_;rintro e w8 ⟨rfl,AW⟩)
 have Bb:=hid (thenB BF.out AW);refine hK.out _ _ (HS.out _ Bb.out) (fun A4=>?_);clear hK Kq AW
 (try simp only [Act.put,vae,van,vao])
 refine tkl 17 (.pointer (some ⟨g,p*3,none⟩)) rfl ah (fun _ _ _ h=>h) (fun W hW=>aY) A4 ?_;refine tkl 18 (.pointer (some ⟨g,p*3+1,none⟩)) rfl ah (fun _ _ _ h=>h) (fun W hW=>ah) A4 ?_;have hq:=JE.out _ Bb.out;have DD:=hq.1;have DC:=hq.2.1;have Et:=hq.2.2.1;clear hq;refine wpAnyH_ready (rs:=[19]) ah aA ?_;refine AllReadyH.cons rfl ?_ AllReadyH.nil;intro Kq hK;go_simp;refine hK.out _ _ (Dy.out _ ⟨(heap_set_ne (p:=⟨g,p*3+1,none⟩) (by show w.heap.size≠g;omega) _).trans (Bb.out.block _ Fd),(heap_set_ne (p:=⟨g,p*3+1,none⟩) (by show wr.heap.size≠g;omega) _).trans (Bb.out.block _ Fj)⟩) (fun A4=>?_);clear hK Kq DD DC Et;refine wpAnyH_done ah ?_ _;clear A4;go_simp;have EQ:=Bb.out.size;clear HM HF HS Dy;go_wp2_with fail;go_roundw
 case rel=>exact ⟨j+1,ae,aR,dW,(HB.out.trans ((Qa.out.trans (Bb.out.mono ae)).mono ae)).setCell (p:=⟨g,p*3+1,none⟩) (by show w.heap.size+1<=g;omega) _⟩
 case measure=>simp [intOf];omega):P:=h
theorem fD{P:Prop}(h:P:=by
 go_enter Tryz.func133,Tryz.ntmps133;go_wp2_with fail
 go_region
 go_wp2_with fail;go_ret;exact ⟨ret_bool HR.out.symm,aD⟩):P:=h
theorem fP{P:Prop}(h:P:=by
 refine wpAny_ready (rs:=[1,3]) ah aA ?_;refine ver rfl (fun K hK=>?_) (ver rfl (fun K hK=>?_) veu)
 . go_simp
   refine hK _ _ ?_;clear hK K;refine wpAny_ready (rs:=[3]) ah aA ?_;refine ver rfl (fun K hK=>?_) veu;refine zbh aH 196 _ _ aH zeh _ aH zai (HE.out _ Bs.out.rd.drew) ?_;intro w8 hk8;exact ⟨rfl,Bs.out.ke.drew.trans hk8,Or.inl ⟨HP.out,rfl⟩⟩
 . refine zbh aH 196 _ _ aH zeh _ aH zai (HE.out _ Bs.out.rd.drew) ?_
   intro w8 hk8;exact ⟨rfl,Bs.out.ke.drew.trans hk8,Or.inl ⟨HP.out,rfl⟩⟩):P:=h
theorem fS{P:Prop}(h:P:=by
 refine wpAny_ready (rs:=[1,3]) ah aA ?_;refine ver rfl (fun K hK=>?_) (ver rfl (fun K hK=>?_) veu)
 . go_simp
   refine hK _ _ ?_;clear hK K;refine wpAny_ready (rs:=[3]) ah aA ?_;refine ver rfl (fun K hK=>?_) veu;refine zbh aH 196 _ _ aH zeh _ aH zai (HE.out _ C4.out.rd.drew) ?_;intro w8 hk8;exact ⟨rfl,C4.out.ke.drew.trans hk8,Or.inl ⟨HP.out,rfl⟩⟩
 . refine zbh aH 196 _ _ aH zeh _ aH zai (HE.out _ C4.out.rd.drew) ?_
   intro w8 hk8;exact ⟨rfl,C4.out.ke.drew.trans hk8,Or.inl ⟨HP.out,rfl⟩⟩):P:=h
theorem f8{P:Prop}(h:P:=by
 go_wp2_with fail
 go_quiet ((go_at_call 63;exact Calls.quiet_of_same (Ds.out _ _ _ _)))
 go_wp2_with fail;go_roundw
 case rel=>exact ⟨(j+1)+1,ae,aR,Fu.out,thenB Cm.out (zdj (al1 _ _) _)⟩
 case measure=>simp [intOf];omega):P:=h
theorem f9{P:Prop}(h:P:=by
 go_wp2_with fail
 go_quiet ((go_at_call 63;exact Calls.quiet_of_same (Ds.out _ _ _ _)))
 go_wp2_with fail;go_roundw
 case rel=>exact ⟨0+1,ae,aR,Fu.out,thenB Cm.out (zdj (al1 _ _) _)⟩
 case measure=>simp [intOf];omega):P:=h
theorem gx{P:Prop}(h:P:=by
 go_enter Tryz.func292,Tryz.ntmps292;go_wp2_with fail;go_ret2;exact ⟨by rw [HP.out];rfl,rfl⟩):P:=h
theorem gA{P:Prop}(h:P:=by
 generalize l[k]=lk at *;generalize hW:w.drewN m=W at *;have HW:=hid hW;clear hW;go_wp2_with fail
 go_quiet ((fail))
 go_wp2_with fail;go_roundw
 case rel=>exact ⟨k+1,m+nq,ae,aR,by rw [← HW.out,vey]⟩
 case measure=>simp [intOf];omega):P:=h
theorem iJ{P:Prop}(h:P:=by
 obtain ⟨a5,c5,rfl,hea⟩:=HO.out.slice;have IZ:=hid hea;clear hea hbx;go_wp2_with fail;go_ret2;refine ⟨bH,HB.out⟩):P:=h
structure Keeps (R:Nat) (w w':World):Prop where
 os:w'.os=w.os
 tape:w'.tape=w.tape
 output:w'.output=w.output
 size:w.heap.size<=w'.heap.size
 block:∀ k,k<w.heap.size->k≠R->w'.heap[k]? = w.heap[k]?
theorem Keeps.refl (R:Nat) (w:World):Keeps R w w:=⟨rfl,rfl,rfl,vaa _,fun _ _ _=>rfl⟩
theorem Keeps.trans {R:Nat} {a b c:World} (h:Keeps R a b) (k:Keeps R b c):Keeps R a c:=
 ⟨k.os.trans h.os,k.tape.trans h.tape,k.output.trans h.output,vbd h.size k.size,fun i h1 h2=>(k.block i (vai h1 h.size) h2).trans (h.block i h1 h2)⟩
theorem Keeps.of_below {w w':World} (h:qb w w') (R:Nat):Keeps R w w':=⟨h.os,h.tape,h.output,h.size,fun k h1 _=>h.block k h1⟩
theorem Keeps.setCell (R:Nat) (w:World) (j:Nat) (u:Value):Keeps R w (w.setCell (qa R j) u):=
 ⟨rfl,rfl,rfl,by rw [vaq];exact vaa _,fun k _ h2=>Below.heap_setCell w (qa R j) u k h2⟩
theorem Keeps.stays {R lo:Nat} {w w':World} (h:Keeps R w w') (hR:R<lo):zge lo w w':=⟨h.size,fun k h1 h2=>h.block k h2 ae⟩
theorem Keeps.cell {R:Nat} {w w':World} (h:Keeps R w w') {b off:Nat} (h1:b<w.heap.size) (h2:b≠R):w'.cell? (qa b off)=w.cell? (qa b off):=
 vet (w:=w) (h.block b h1 h2)
theorem Keeps.later {R:Nat} {w w1 w2:World} (h:Keeps R w w1) (hb:qb w1 w2):Keeps R w w2:=h.trans (Keeps.of_below hb R)
theorem Keeps.alloc {R:Nat} {w w1:World} (h:Keeps R w w1) (o:Obj):Keeps R w (w1.alloc o):=h.later ((Below.refl _ _).alloc (vaa _) o)
theorem Keeps.own {R:Nat} {w w1:World} (h:Keeps R w w1) (j:Nat) (u:Value):Keeps R w (w1.setCell (qa R j) u):=h.trans (Keeps.setCell R w1 j u)
theorem Keeps.set {R:Nat} {w w1:World} (h:Keeps R w w1) {p:Addr} (hp:w.heap.size<=p.block) (u:Value):Keeps R w (w1.setCell p u):=
 ⟨h.os,h.tape,h.output,by rw [vaq];exact h.size,fun k h1 h2=>(Below.heap_setCell w1 p u k ae).trans (h.block k h1 h2)⟩
structure Rd (R:Nat) (a:OA) (cap:Nat) (ts:List Tk) (w:World) (l:List Tk):Prop where
 idx:∃ k:Nat,k<=ts.length/\l=ts.drop k/\w.heap[R]? = some (.cells #[.slice a ts.length cap,qi k] 239 (0,0))
 toks:zdb w a ts
 ne:ts=[]\/∀ b off,a=some (qa b off)->b≠R
 len:ts.length<=4096
theorem zdb.keeps {R:Nat} {w w':World} {a:OA} {ts:List Tk} (h:zdb w a ts) (hk:Keeps R w w') (Ai:ts=[]\/∀ b off,a=some (qa b off)->b≠R):zdb w' a ts:=by
 rcases Ai with h0 | Ai
 . exact Or.inl h0
 rcases h with h | ⟨b,off,ha,h⟩
 . exact Or.inl h
 . have hb:=Ai b off ha
   have hl:=h.lt;exact Or.inr ⟨b,off,ha,vai hl hk.size,fun i hi=>(hk.cell hl hb).trans (h.kind i hi),fun i hi=>(hk.cell hl hb).trans (h.num i hi),fun i hi=>(hk.cell hl hb).trans (h.text i hi),h.fits⟩
section
variable {R cap:Nat} {a:OA} {ts l:List Tk} {w w':World}
theorem Rd.lt (h:Rd R a cap ts w l):R<w.heap.size:=by obtain ⟨k,_,_,hb⟩:=h.idx;exact lt_of_heap hb
theorem Rd.later (h:Rd R a cap ts w l) (hb:qb w w'):Rd R a cap ts w' l:=by
 obtain ⟨k,h1,h2,h3⟩:=h.idx;exact ⟨⟨k,h1,h2,(hb.block R (lt_of_heap h3)).trans h3⟩,h.toks.later hb,h.ne,h.len⟩
theorem Rd.at_ {l':List Tk} {j:Nat} (h:Rd R a cap ts w l) (hk:Keeps R w w') (hj:j<=ts.length) (hl:l'=ts.drop j) (hb:w'.heap[R]? = some (.cells #[.slice a ts.length cap,qi j] 239 (0,0))):Rd R a cap ts w' l':=
 ⟨⟨j,hj,hl,hb⟩,h.toks.keeps hk h.ne,h.ne,h.len⟩
theorem Rd.still (h:Rd R a cap ts w l) (hk:Keeps R w w') (hb:w'.heap[R]? = w.heap[R]?):Rd R a cap ts w' l:=by
 obtain ⟨k,h1,h2,h3⟩:=h.idx;exact ⟨⟨k,h1,h2,hb.trans h3⟩,h.toks.keeps hk h.ne,h.ne,h.len⟩
theorem Rd.set (h:Rd R a cap ts w l) {p:Addr} (hp:p.block≠R) (ht:∀ b off,a=some (qa b off)->p.block≠b) (u:Value):Rd R a cap ts (w.setCell p u) l:=by
 obtain ⟨k,h1,h2,h3⟩:=h.idx;refine ⟨⟨k,h1,h2,(Below.heap_setCell w p u R (veo hp)).trans h3⟩,?_,h.ne,h.len⟩
 rcases h.toks with h4 | ⟨b,off,ha,h4⟩
 . exact Or.inl h4
 . have e:∀ j,(w.setCell p u).cell? (qa b j)=w.cell? (qa b j):=fun j=>vet (w:=w) (Below.heap_setCell w p u b (veo (ht b off ha)))
   exact Or.inr ⟨b,off,ha,by rw [vaq];exact h4.lt,fun i hi=>(e _).trans (h4.kind i hi),fun i hi=>(e _).trans (h4.num i hi),fun i hi=>(e _).trans (h4.text i hi),h4.fits⟩
theorem Rd.alloc (h:Rd R a cap ts w l) (o:Obj):Rd R a cap ts (w.alloc o) l:=h.later ((Below.refl _ _).alloc (vaa _) o)
theorem Rd.setAbove {w0:World} {l0:List Tk} (h:Rd R a cap ts w l) (h0:Rd R a cap ts w0 l0) {p:Addr} (hp:w0.heap.size<=p.block) (u:Value):Rd R a cap ts (w.setCell p u) l:=by
 refine ⟨?_,?_,h.ne,h.len⟩
 . obtain ⟨k,h1,h2,h3⟩:=h.idx
   exact ⟨k,h1,h2,(Below.heap_setCell w p u R (by have:=lt_of_heap h0.idx.choose_spec.2.2;omega)).trans h3⟩
 rcases h0.toks with h4 | ⟨b,off,ha,h4⟩
 . exact Or.inl h4
 . rcases h.toks with h5 | ⟨b',BN,Cr,h5⟩
   . exact Or.inl h5
   . have eq:b'=b:=by rw [ha] at Cr;injection Cr with Cr;injection Cr with e1 e2;exact e1.symm
     subst eq
     have e:∀ j,(w.setCell p u).cell? (qa b' j)=w.cell? (qa b' j):=fun j=>vet (w:=w) (Below.heap_setCell w p u b' (by have:=h4.lt;omega))
     exact Or.inr ⟨b',BN,Cr,by rw [vaq];exact h5.lt,fun i hi=>(e _).trans (h5.kind i hi),fun i hi=>(e _).trans (h5.num i hi),fun i hi=>(e _).trans (h5.text i hi),h5.fits⟩
theorem Rd.adv {k:Nat} (h:Rd R a cap ts w (ts.drop k)) (hk:k<ts.length) (hb:w.heap[R]? = some (.cells #[.slice a ts.length cap,qi k] 239 (0,0))) :
 Rd R a cap ts (w.setCell (qa R 1) (qi ((k:Int)+1))) (ts.drop (k+1)):=by
 refine ⟨⟨k+1,ae,rfl,?_⟩,h.toks.keeps (Keeps.setCell R w 1 _) h.ne,h.ne,h.len⟩;simp [World.setCell,Array.getElem?_modify,hb]
end
theorem zq7 (R cap n:Nat) (a:OA) (ts l:List Tk) (w:World) (hn:n<=1) (h:Rd R a cap ts w l) :
 qc 252 #[pq R 0,qi n] w fun e w'=>e = .returned (Tk.val (l.getD n noTk))/\qb w w':=by
 obtain ⟨k,hk,rfl,hb⟩:=h.idx
 have CL:w.cell? (qa R 0)=some (.slice a ts.length cap):=fg
 have Bk:w.cell? (qa R 1)=some (qi k):=fg
 have A0:=h.lt;have Ah:=h.len
 by_cases Gl:k+n<ts.length
 . have HV:Hid (Tk.val ((ts.drop k).getD n noTk) = .agg #[qi ts[k+n].kind,qi ts[k+n].n,.string ts[k+n].text]):=by
    show Tk.val _=_;exact jW
   obtain ⟨b,off,rfl,hT⟩:=h.toks.place Gl;have Gr:=hT.kind (k+n) Gl;have Cj:=hT.num (k+n) Gl;have DE:=hT.text (k+n) Gl;have Av:=hT.lt;clear hT h hb;go_enter Tryz.func252,Tryz.ntmps252;go_wp2_with fail
   go_quiet ((fail))
   go_wp2_with fail
   go_region
   go_wp2_with fail;refine bodyPost_ret (v:=.agg #[qi ts[k+n].kind,qi ts[k+n].n,.string ts[k+n].text]) (by simp [results,Tryz.results252,go_sem]) rfl ⟨by rw [HV.out],?_⟩;exact gV
 . have HV:Hid (Tk.val ((ts.drop k).getD n noTk) = .agg #[qi 0,qi 0,.string ⟨#[]⟩]):=by
    show Tk.val _=_;rw [vax,vbv (by rw [vbz];omega)]
    rfl
   clear h hb;go_enter Tryz.func252,Tryz.ntmps252;go_wp2_with fail
   go_quiet ((fail))
   go_wp2_with fail;refine bodyPost_ret (v:=.agg #[qi 0,qi 0,.string ⟨#[]⟩]) (by simp [results,Tryz.results252,go_sem]) rfl ⟨by rw [HV.out],?_⟩;exact gV
set_option maxHeartbeats 1600000
theorem z6d {ts:List Tk} {k:Nat} (h:k<ts.length):hd (ts.drop k)=ts[k]:=by
 unfold hd;exact jW
theorem z42 {ts:List Tk} {k:Nat} (h:¬ k<ts.length):hd (ts.drop k)=noTk:=by
 rw [vcw ae];rfl
theorem z91 {ts:List Tk} {k:Nat} {t:ByteArray} (ht:0<t.size) (h:skB (ts.drop k) t=true):k<ts.length:=by
 by_cases hk:k<ts.length
 . exact hk
 . unfold skB at h
   rw [z42 hk,vay,vay] at h
   have:t.data.toList=[]:=by simpa [noTk] using (beq_iff_eq.1 h).symm
   have:=Lx.za0 t;simp_all
theorem zq8 (R cap:Nat) (a:OA) (ts l:List Tk) (w:World) (h:Rd R a cap ts w l) :
 qc 252 #[pq R 0,qi 0] w fun e w'=>e = .returned (.agg #[qi (hd l).kind,qi (hd l).n,.string (hd l).text])/\qb w w':=
 zq7 R cap 0 a ts l w ae h
theorem z43 (k n:Int) (t:ByteArray):∀ w:World,(Instr.field 184 (.agg #[qi k,qi n,.string t]) 0).run Tryz.prog w = .ok (qi k) w:=fun _=>ah
theorem zu7 (k n:Int) (t:ByteArray):∀ w:World,(Instr.field 184 (.agg #[qi k,qi n,.string t]) 2).run Tryz.prog w = .ok (.string t) w:=fun _=>ah
theorem zbn (R cap:Nat) (a:OA) (ts l:List Tk) (t:ByteArray) (w:World) (ht:0<t.size) (h:Rd R a cap ts w l) (hs:skB l t=true) :
 qc 197 #[pq R 0,.string t] w fun e w'=>e = .returned (.bool true)/\Rd R a cap ts w' l.tail/\Keeps R w w':=by
 obtain ⟨k,hk,rfl,hb⟩:=h.idx;have A0:=z91 ht hs;have HR:Hid (Rd R a cap ts w (ts.drop k)):=h;have HA:Hid (qc 252 #[pq R 0,qi 0] w fun e w'=>e = .returned (.agg #[qi (hd (ts.drop k)).kind,qi (hd (ts.drop k)).n,.string (hd (ts.drop k)).text])/\qb w w'):=zq8 R cap a ts (ts.drop k) w h
 have HT:Hid ((ts.drop k).tail=ts.drop (k+1)):=by show List.tail _=_;rw [List.tail_drop]
 have FV:=h.len;have F9:((hd (ts.drop k)).text.toList == t.toList)=true:=hs;have HB:Hid (w.heap[R]? = some (.cells #[.slice a ts.length cap,qi k] 239 (0,0))):=hb;clear h hs hb;generalize hd (ts.drop k)=T at *;have EV:=zu7 T.kind T.n T.text;go_enter Tryz.func197,Tryz.ntmps197;go_wp2_with fail;refine HA.out.mono ?_;rintro e w1 ⟨rfl,A6⟩;have A8:Hid (w1.heap[R]? = some (.cells #[.slice a ts.length cap,qi k] 239 (0,0))):=(A6.block R HR.out.lt).trans HB.out
 have Bk:w1.cell? (qa R 1)=some (qi k):=by rw [vep A8.out];rfl
 have Ec:w1.frozen? (qa R 1)=false:=veq A8.out 1;clear HA;go_wp2_with fail;go_ret;refine ⟨rfl,?_,(Keeps.of_below A6 R).trans (Keeps.setCell R w1 1 _)⟩;rw [HT.out];exact (HR.out.later A6).adv A0 A8.out
theorem zb7 (R cap:Nat) (a:OA) (ts l:List Tk) (t:ByteArray) (w:World) (h:Rd R a cap ts w l) (hs:skB l t=false) :
 qc 197 #[pq R 0,.string t] w fun e w'=>e = .returned (.bool false)/\Rd R a cap ts w' l/\Keeps R w w':=by
 have HR:Hid (Rd R a cap ts w l):=h;have HA:Hid (qc 252 #[pq R 0,qi 0] w fun e w'=>e = .returned (.agg #[qi (hd l).kind,qi (hd l).n,.string (hd l).text])/\qb w w'):=zq8 R cap a ts l w h;have F9:((hd l).text.toList == t.toList)=false:=hs;clear h hs;generalize hd l=T at *;have EV:=zu7 T.kind T.n T.text;go_enter Tryz.func197,Tryz.ntmps197;go_wp2_with fail;refine HA.out.mono ?_;rintro e w1 ⟨rfl,A6⟩;clear HA;go_wp2_with fail;go_ret;exact ⟨rfl,HR.out.later A6,Keeps.of_below A6 R⟩
theorem take_any (R cap:Nat) (a:OA) (ts l:List Tk) (w:World) (h:Rd R a cap ts w l) :
 qc 251 #[pq R 0] w fun e w'=>e = .returned (.agg #[qi (hd l).kind,qi (hd l).n,.string (hd l).text])/\(l≠[]->Rd R a cap ts w' l.tail)/\Keeps R w w':=by
 obtain ⟨k,hk,rfl,hb⟩:=h.idx;have HR:Hid (Rd R a cap ts w (ts.drop k)):=h;have FV:=h.len
 have HN:Hid (ts.drop k≠[]->k<ts.length):=fun Ai=>by
  by_cases hk:k<ts.length
  . exact hk
  . exact absurd (vcw ae) Ai
 have HT:Hid ((ts.drop k).tail=ts.drop (k+1)):=by show List.tail _=_;rw [List.tail_drop]
 have HB:Hid (w.heap[R]? = some (.cells #[.slice a ts.length cap,qi k] 239 (0,0))):=hb
 have HA:Hid (∀ w:World,Rd R a cap ts w (ts.drop k)->qc 252 #[pq R 0,qi 0] w fun e w'=>e = .returned (.agg #[qi (hd (ts.drop k)).kind,qi (hd (ts.drop k)).n,.string (hd (ts.drop k)).text])/\qb w w'):=fun w h=>zq8 R cap a ts (ts.drop k) w h
 clear h hb;generalize hd (ts.drop k)=T at *;go_enter Tryz.func251,Tryz.ntmps251;go_wp2_with fail;refine (HA.out _ (HR.out.later ((Below.refl _ _).alloc (vaa _) _))).mono ?_;rintro e w1 ⟨rfl,A6⟩;have DH:qb w w1:=((Below.refl _ _).alloc (vaa _) _).trans (A6.mono aA);have Rb:=HR.out.lt;have Ao:=A6.size;simp at Ao;have A8:Hid (w1.heap[R]? = some (.cells #[.slice a ts.length cap,qi k] 239 (0,0))):=(DH.block R Rb).trans HB.out
 have Bk:w1.cell? (qa R 1)=some (qi k):=by rw [vep A8.out];rfl
 have Ec:w1.frozen? (qa R 1)=false:=veq A8.out 1;have Hc:w1.heap[w.heap.size]? = some (.cells #[qi 0,qi 0,.string ⟨#[]⟩] 184):=(A6.block w.heap.size aA).trans (_root_.Go.heap_alloc_new w _)
 have Gr:w1.cell? (qa w.heap.size 0)=some (qi 0):=by rw [vep Hc];rfl
 have Cj:w1.cell? (qa w.heap.size 1)=some (qi 0):=by rw [vep Hc];rfl
 have DE:w1.cell? (qa w.heap.size 2)=some (.string ⟨#[]⟩):=by rw [vep Hc];rfl
 have PJ:w1.frozen? (qa w.heap.size 0)=false:=veq Hc 0;have Jk:w1.frozen? (qa w.heap.size 1)=false:=veq Hc 1;have Eb:w1.frozen? (qa w.heap.size 2)=false:=veq Hc 2;clear Hc
 have Bo:R<w1.heap.size:=ae
 have R7:w.heap.size<w1.heap.size:=ae
 have Ai:w.heap.size≠R:=ae
 go_wp2_with fail;refine bodyPost_ret (v:=.agg #[qi T.kind,qi T.n,.string T.text]) (by simp [results,Tryz.results251,go_sem,Gr,Cj,DE,R7]) rfl ⟨rfl,fun MV=>?_,?_⟩
 . rw [HT.out]
   exact (((((HR.out.later DH).adv (HN.out MV) A8.out).setAbove HR.out (vaa _) _).setAbove HR.out (vaa _) _).setAbove HR.out (vaa _) _).alloc _
 . exact ((((Keeps.of_below DH R).own 1 _).set (vaa _) _).set (vaa _) _).set (vaa _) _ |>.alloc _
theorem zlj (s:ByteArray) (w:World) :
 qc 237 #[.string s] w fun e w'=>e = .returned (.bool (zpn s))/\w'=w:=by
 go_enter Tryz.func237,Tryz.ntmps237;go_wp2_with fail
 all_goals go_ret
 all_goals exact ⟨ret_bool (by simp_all [zpn,z6u]),rfl⟩
def zeg {α:Type} (R:Nat) (a:OA) (cap:Nat) (ts:List Tk) (w:World) (r:Option (α × List Tk)) (AE:α->World->Value->Prop) (e:Ending) (w':World):Prop:=
 Keeps R w w'/\((r=none/\e = .panicked zai)\/∃ x l v,r=some (x,l)/\e = .returned v/\AE x w' v/\Rd R a cap ts w' l)
theorem Rd.fit {R cap:Nat} {a:OA} {ts l:List Tk} {w:World} (h:Rd R a cap ts w l):(hd l).text.size<=maxLen:=by
 obtain ⟨k,hk,rfl,hb⟩:=h.idx
 by_cases A0:k<ts.length
 . rw [z6d A0]
   obtain ⟨b,off,_,hT⟩:=h.toks.place A0;exact hT.fits k A0
 . rw [z42 A0];exact vaf _
theorem zb1 (R cap:Nat) (a:OA) (ts l:List Tk) (w:World) (h:Rd R a cap ts w l) :
 qc 196 #[pq R 0] w (zeg R a cap ts w (zdo l) fun x _ v=>v = .string x/\x.size<=maxLen):=by
 have HT:Hid (qc 251 #[pq R 0] w fun e w'=>e = .returned (.agg #[qi (hd l).kind,qi (hd l).n,.string (hd l).text])/\(l≠[]->Rd R a cap ts w' l.tail)/\Keeps R w w'):=take_any R cap a ts l w h;have HF:Hid ((hd l).text.size<=maxLen):=h.fit;go_enter Tryz.func196,Tryz.ntmps196;go_wp2_with fail;refine HT.out.mono ?_;rintro e w1 ⟨rfl,AY,AL⟩
 by_cases hk:(hd l).kind=1
 . have HN:Hid (zdo l=if !zpn (hd l).text then some ((hd l).text,l.tail) else none):=by show zdo l=_;unfold zdo;simp [hk]
   have HL:Hid (l≠[]):=zlz (by rw [hk];decide)
   by_cases hp:zpn (hd l).text=true
   . go_wp2_with (go_at_call 237;refine (zlj _ _).mono ?_;rintro e w' ⟨rfl,rfl⟩)
     exact ⟨rfl,AL.alloc _,Or.inl ⟨by rw [HN.out,hp];rfl,rfl⟩⟩
   . have I2:zpn (hd l).text=false:=by simpa using hp
     clear hp
     go_wp2_with (go_at_call 237;refine (zlj _ _).mono ?_;rintro e w' ⟨rfl,rfl⟩)
     go_ret;exact ⟨AL.alloc _,Or.inr ⟨_,_,_,by rw [HN.out,I2];rfl,rfl,⟨rfl,HF.out⟩,(AY HL.out).alloc _⟩⟩
 . have HN:Hid (zdo l=none):=by show zdo l=_;unfold zdo;simp [hk]
   exact jO
theorem zhw (R cap:Nat) (a:OA) (ts l:List Tk) (w:World) (h:Rd R a cap ts w l) :
 qc 253 #[pq R 0] w (zeg R a cap ts w (pNum l) fun x _ v=>v=qi x):=by
 have HT:Hid (qc 251 #[pq R 0] w fun e w'=>e = .returned (.agg #[qi (hd l).kind,qi (hd l).n,.string (hd l).text])/\(l≠[]->Rd R a cap ts w' l.tail)/\Keeps R w w'):=take_any R cap a ts l w h;go_enter Tryz.func253,Tryz.ntmps253;go_wp2_with fail;refine HT.out.mono ?_;rintro e w1 ⟨rfl,AY,AL⟩
 by_cases hk:(hd l).kind=2
 . have HN:Hid (pNum l=some ((hd l).n,l.tail)):=by show pNum l=_;unfold pNum;simp [hk]
   have HL:Hid (l≠[]):=zlz (by rw [hk];decide);go_wp2_with fail;go_ret;exact ⟨AL.alloc _,Or.inr ⟨_,_,_,HN.out,rfl,rfl,(AY HL.out).alloc _⟩⟩
 . have HN:Hid (pNum l=none):=by show pNum l=_;unfold pNum;simp [hk]
   exact jO
theorem zzs {α:Type} {p:α->Bool}:∀ {l:List α},(l.take l.length).all (fun x=>!p x)=true->l.find? p=none:=by
 intro l h;rw [vau] at h;rw [List.find?_eq_none];intro x hx;have:=vas.1 h x hx;exact jI
theorem ztc {α:Type} {p:α->Bool}:∀ {l:List α} {k:Nat} (hk:k<l.length),(l.take k).all (fun x=>!p x)=true->p l[k]=true->l.find? p=some l[k]
 | [],k,hk,_,_=>by simp at hk
 | x :: r,0,hk,_,h=>by simp at h;simp [h]
 | x :: r,k+1,hk,ha,h=>by
   simp only [List.take_succ_cons,vcp,vac] at ha
   have hx:p x=false:=by simpa using ha.1
   rw [vcu,hx];exact ztc (by simpa using hk) ha.2 h
theorem zks (R cap b c:Nat) (a:OA) (ts l:List Tk) (Au:List ByteArray) (w:World) (h:Rd R a cap ts w l) (hb:b<w.heap.size) (NC:b≠R) (hn:Au.length<=100)
 (hc:∀ i (h:i<Au.length),w.cell? (qa b i)=some (.string Au[i])) (hp:∀ i (h:i<Au.length),0<Au[i].size) :
 qc 195 #[pq R 0,.slice (some (qa b 0)) Au.length c] w (zeg R a cap ts w ((zke l Au).map fun t=>(t,l.tail)) fun x _ v=>v = .string x):=by
 have HR:Hid (Rd R a cap ts w l):=h;have HC:Hid (∀ i (h:i<Au.length),w.cell? (qa b i)=some (.string Au[i])):=hc;have HP:Hid (∀ i (h:i<Au.length),0<Au[i].size):=hp;clear h hc hp;go_enter Tryz.func195,Tryz.ntmps195;go_wp2_with fail
 go_loopw [9,6] (fun i _ wr=>∃ k:Nat,k<=Au.length/\i=qi k/\(Au.take k).all (fun t=>!skB l t)=true/\Rd R a cap ts wr l/\Keeps R w wr) (fun i _ _=>Au.length - (intOf i).toNat)
 case atStart=>exact ⟨0,vaf _,rfl,rfl,HR.out,Keeps.refl _ _⟩
 case round=>
  obtain ⟨k,hk,rfl,A7,Dv,Be⟩:=hrel;have HA:Hid ((Au.take k).all (fun t=>!skB l t)=true):=A7;have HD:Hid (Rd R a cap ts wr l):=Dv;clear A7 Dv
  by_cases A0:k<Au.length
  . have FZ:wr.cell? (qa b k)=some (.string Au[k]):=(Be.cell hb NC).trans (HC.out k A0)
    by_cases hs:skB l Au[k]=true
    . have HS:Hid (qc 197 #[pq R 0,.string Au[k]] wr fun e w'=>e = .returned (.bool true)/\Rd R a cap ts w' l.tail/\Keeps R wr w'):=zbn R cap a ts l Au[k] wr (HP.out k A0) HD.out hs
      have HM:Hid (zke l Au=some Au[k]):=ztc A0 HA.out hs
      go_wp2_with (go_at_call 197;refine HS.out.mono ?_;rintro e w2 ⟨rfl,An,AN⟩)
      go_ret;exact ⟨Be.trans AN,Or.inr ⟨_,_,_,by rw [HM.out];rfl,rfl,rfl,An⟩⟩
    . have F9:skB l Au[k]=false:=by simpa using hs
      have HS:Hid (qc 197 #[pq R 0,.string Au[k]] wr fun e w'=>e = .returned (.bool false)/\Rd R a cap ts w' l/\Keeps R wr w'):=zb7 R cap a ts l Au[k] wr HD.out F9
      go_wp2_with (go_at_call 197;refine HS.out.mono ?_;rintro e w2 ⟨rfl,An,AN⟩)
      go_roundw
      case rel=>exact ⟨k+1,ae,aR,by rw [all_snoc Au _ k A0,HA.out,F9];rfl,An,Be.trans AN⟩
      case measure=>simp [intOf];omega
  . have Nc:k=Au.length:=by omega
    subst Nc;have HM:Hid (zke l Au=none):=zzs HA.out;go_wp2_with fail;exact ⟨rfl,Be,Or.inl ⟨by rw [HM.out];rfl,rfl⟩⟩
theorem zfy (R cap n:Nat) (a:OA) (ts l:List Tk) (t:ByteArray) (w:World) (hn:n=w.heap.size) (h:Rd R a cap ts w l) (ht:0<t.size) :
 qc 195 #[pq R 0,.slice (some (qa n 0)) 1 1] (w.alloc (.cells #[.string t] 9)) fun e w'=>Keeps R w w'/\((skB l t=false/\e = .panicked zai)\/(skB l t=true/\e = .returned (.string t)/\Rd R a cap ts w' l.tail)):=by
 have A0:=h.lt;subst hn;refine (zks R cap w.heap.size 1 a ts l [t] _ (h.alloc _) aA ae aA (fun i hi=>?_) (fun i hi=>?_)).mono ?_
 . obtain rfl:i=0:=by simp at hi;omega
   simp
 . obtain rfl:i=0:=by simp at hi;omega
   exact ht
 . rintro e w' ⟨hk,hr⟩
   refine ⟨((Keeps.refl R w).alloc _).trans hk,?_⟩
   have hm:zke l [t]=if skB l t then some t else none:=by unfold zke;rw [vcu];cases skB l t<;>rfl
   rw [hm] at hr
   cases hs:skB l t
   . rw [hs] at hr
     rcases hr with ⟨_,rfl⟩ | ⟨x,l',v,hr,_⟩
     . exact Or.inl ⟨rfl,rfl⟩
     . simp at hr
   . rw [hs] at hr
     rcases hr with ⟨hr,_⟩ | ⟨x,l',v,hr,rfl,rfl,hR⟩
     . simp at hr
     . simp at hr
       obtain ⟨rfl,rfl⟩:=hr;exact Or.inr ⟨rfl,rfl,hR⟩
theorem zo8 (R cap:Nat) (a:OA) (ts l:List Tk) (t:ByteArray) (w:World) (ht:0<t.size) (h:Rd R a cap ts w l) :
 qc 197 #[pq R 0,.string t] w fun e w'=>e = .returned (.bool (skB l t))/\Rd R a cap ts w' (if skB l t then l.tail else l)/\Keeps R w w':=by
 cases hs:skB l t
 . exact zb7 R cap a ts l t w h hs
 . exact zbn R cap a ts l t w ht h hs
set_option maxHeartbeats 800000
theorem heap_set {w:World} {b i:Nat} {cs:Array Value} {t:TypeId} {f:Nat × Nat} (h:w.heap[b]? = some (.cells cs t f)) (u:Value):(w.setCell (qa b i) u).heap[b]? = some (.cells (cs.setIfInBounds i u) t f):=by
 simp [World.setCell,Array.getElem?_modify,h]
theorem heap_set_ne {w:World} {b:Nat} {p:Addr} (h:b≠p.block) (u:Value):(w.setCell p u).heap[b]? = w.heap[b]?:=Below.heap_setCell w p u b h
theorem zab {w:World} {b:Nat} {x o:Obj} (h:w.heap[b]? = some x):(w.alloc o).heap[b]? = some x:=((Below.refl w.heap.size w).alloc (vaa _) o |>.block b (lt_of_heap h)).trans h
theorem heap_newP (w:World) (o:Obj):(w.alloc o).heap[w.heap.size]? = some o:=_root_.Go.heap_alloc_new w o
theorem zaa {w:World} {b:Nat} {x0 x1 x2 x3 x4:Value} {t:TypeId} (h:w.heap[b]? = some (.cells #[x0,x1,x2,x3,x4] t (0,0))) :
 w.cell? (qa b 0)=some x0/\w.cell? (qa b 1)=some x1/\w.cell? (qa b 2)=some x2/\w.cell? (qa b 3)=some x3/\w.cell? (qa b 4)=some x4/\∀ i,w.frozen? (qa b i)=false:=by
 refine ⟨?_,?_,?_,?_,?_,fun i=>veq h i⟩<;>(rw [vep h];rfl)
theorem zao {w:World} {b:Nat} {x0 x1 x2 x3 x4 x5:Value} {t:TypeId} (h:w.heap[b]? = some (.cells #[x0,x1,x2,x3,x4,x5] t (0,0))) :
 w.cell? (qa b 0)=some x0/\w.cell? (qa b 1)=some x1/\w.cell? (qa b 2)=some x2/\w.cell? (qa b 3)=some x3/\w.cell? (qa b 4)=some x4/\w.cell? (qa b 5)=some x5/\∀ i,w.frozen? (qa b i)=false:=by
 refine ⟨?_,?_,?_,?_,?_,?_,fun i=>veq h i⟩<;>(rw [vep h];rfl)
theorem zco {w:World} {b:Nat} {x0 x1 x2 x3:Value} {t:TypeId} (h:w.heap[b]? = some (.cells #[x0,x1,x2,x3] t (0,0))) :
 w.cell? (qa b 0)=some x0/\w.cell? (qa b 1)=some x1/\w.cell? (qa b 2)=some x2/\w.cell? (qa b 3)=some x3/\∀ i,w.frozen? (qa b i)=false:=by
 refine ⟨?_,?_,?_,?_,fun i=>veq h i⟩<;>(rw [vep h];rfl)
theorem zad.keeps {R:Nat} {w w1 w2:World} {A A':Nat->Prop} (h:zad w A w1 A') (hk:Keeps R w1 w2) (hR:∀ b,b<w.heap.size->A b->b≠R):zad w A w2 A':=
 ⟨vbd h.1 hk.size,fun b hb ha=>⟨(h.2 b hb ha).1,(hk.block b (vai hb h.1) (hR b hb ha)).trans (h.2 b hb ha).2⟩⟩
theorem zad.set {w w1:World} {A A':Nat->Prop} (h:zad w A w1 A') {p:Addr} (hp:∀ b,b<w.heap.size->A b->b≠p.block) (u:Value):zad w A (w1.setCell p u) A':=
 ⟨by rw [vaq];exact h.1,fun b hb ha=>⟨(h.2 b hb ha).1,(Below.heap_setCell w1 p u b (hp b hb ha)).trans (h.2 b hb ha).2⟩⟩
theorem zad.to {w w1:World} {lo lo':Nat} (h:zad w (lo<=·) w1 (lo<=·)) (hl:lo'<=lo):zad w (lo<=·) w1 (lo'<=·):=h.trans (zad.lower hl)
theorem Keeps.drew {R:Nat} {w w1:World} (h:Keeps R w w1):Keeps R w w1.drew:=⟨h.os,h.tape,h.output,h.size,h.block⟩
theorem Rd.drew {R cap:Nat} {a:OA} {ts l:List Tk} {w:World} (h:Rd R a cap ts w l):Rd R a cap ts w.drew l:=h.still (Keeps.refl R w).drew rfl
theorem zad.drew {w w1:World} {A A':Nat->Prop} (h:zad w A w1 A'):zad w A w1.drew A':=⟨h.1,h.2⟩
abbrev set5 (w:World) (b:Nat) (v0 v1 v2 v3 v4:Value):World:=((((w.setCell (qa b 0) v0).setCell (qa b 1) v1).setCell (qa b 2) v2).setCell (qa b 3) v3).setCell (qa b 4) v4
abbrev set6 (w:World) (b:Nat) (v0 v1 v2 v3 v4 v5:Value):World:=(set5 w b v0 v1 v2 v3 v4).setCell (qa b 5) v5
section
variable {R cap b:Nat} {w w0 w1:World} {a:OA} {ts l l0:List Tk} {A A':Nat->Prop}
theorem Keeps.set5 (h:Keeps R w w1) (hp:w.heap.size<=b) (v0 v1 v2 v3 v4:Value):Keeps R w (set5 w1 b v0 v1 v2 v3 v4):=((((h.set hp v0).set hp v1).set hp v2).set hp v3).set hp v4
theorem Keeps.set6 (h:Keeps R w w1) (hp:w.heap.size<=b) (v0 v1 v2 v3 v4 v5:Value):Keeps R w (set6 w1 b v0 v1 v2 v3 v4 v5):=(h.set5 hp v0 v1 v2 v3 v4).set hp v5
theorem Rd.set5 (h:Rd R a cap ts w1 l) (h0:Rd R a cap ts w0 l0) (hp:w0.heap.size<=b) (v0 v1 v2 v3 v4:Value):Rd R a cap ts (set5 w1 b v0 v1 v2 v3 v4) l:=((((h.setAbove h0 hp v0).setAbove h0 hp v1).setAbove h0 hp v2).setAbove h0 hp v3).setAbove h0 hp v4
theorem Rd.set6 (h:Rd R a cap ts w1 l) (h0:Rd R a cap ts w0 l0) (hp:w0.heap.size<=b) (v0 v1 v2 v3 v4 v5:Value):Rd R a cap ts (set6 w1 b v0 v1 v2 v3 v4 v5) l:=(h.set5 h0 hp v0 v1 v2 v3 v4).setAbove h0 hp v5
theorem zad.set5 (h:zad w A w1 A') (hp:∀ k,k<w.heap.size->A k->k≠b) (v0 v1 v2 v3 v4:Value):zad w A (set5 w1 b v0 v1 v2 v3 v4) A':=((((h.set hp v0).set hp v1).set hp v2).set hp v3).set hp v4
theorem zad.set6 (h:zad w A w1 A') (hp:∀ k,k<w.heap.size->A k->k≠b) (v0 v1 v2 v3 v4 v5:Value):zad w A (set6 w1 b v0 v1 v2 v3 v4 v5) A':=(h.set5 hp v0 v1 v2 v3 v4).set hp v5
end
def zhd (A:Nat->Prop) (x:Ex) (w:World) (v:Value):Prop:=∃ a cap,v = .agg #[qi x.op,qi x.n,.string x.mod,.string x.name,.slice a x.args.length cap]/\x.mod.size<=maxLen/\x.name.size<=maxLen/\EAt w A a x.args.length (zbr x.args)
def zfz (x:Ex) (a:OA) (cap:Nat):List Value:=[qi x.op,qi x.n,.string x.mod,.string x.name,.slice a x.args.length cap]
theorem zf0 {A:Nat->Prop} {x:Ex} {w:World} {a:OA} {cap:Nat} (h1:x.mod.size<=maxLen) (h2:x.name.size<=maxLen) (h3:EAt w A a x.args.length (zbr x.args)):zav w A x.ds (zfz x a cap):=by
 cases x
 unfold Ex.ds;exact .cons zqh (.cons zqh (.cons (zx0 h1) (.cons (zx0 h2) (.cons h3.val .nil))))
theorem zlk {A A':Nat->Prop} {x:Ex} {w w':World} {a:OA} {cap g:Nat} {t:TypeId} (h1:x.mod.size<=maxLen) (h2:x.name.size<=maxLen) (h3:EAt w A a x.args.length (zbr x.args))
 (hm:zad w A w' A') (hg:w'.heap[g]? = some (.cells #[qi x.op,qi x.n,.string x.mod,.string x.name,.slice a x.args.length cap] t (0,0))) (hA:A' g):EAt w' A' (some (qa g 0)) 1 (zbr [x]):=by
 rw [zkt];refine Or.inr ⟨g,0,zfz x a cap,rfl,hA,lt_of_heap hg,fun j u hj=>?_,zf0 h1 h2 (h3.moves hm)⟩;rw [vaz,vep hg];simpa [zfz] using hj
theorem z8e {A B A':Nat->Prop} {x y:Ex} {w u w':World} {a b:OA} {cap dap g:Nat} {t:TypeId} (h:x.mod.size<=maxLen/\x.name.size<=maxLen/\EAt w A a x.args.length (zbr x.args)) (k:y.mod.size<=maxLen/\y.name.size<=maxLen/\EAt u B b y.args.length (zbr y.args))
 (hm:zad w A w' A') (km:zad u B w' A') (hg:w'.heap[g]? = some (.cells #[qi x.op,qi x.n,.string x.mod,.string x.name,.slice a x.args.length cap,qi y.op,qi y.n,.string y.mod,.string y.name,.slice b y.args.length dap] t (0,0))) (hA:A' g):EAt w' A' (some (qa g 0)) 2 (zbr [x,y]):=by
 have e:zbr [x,y]=x.ds++y.ds:=by simp [zbr]
 rw [e];refine Or.inr ⟨g,0,zfz x a cap++zfz y b dap,rfl,hA,lt_of_heap hg,fun j u hj=>?_,(zf0 h.1 h.2.1 (h.2.2.moves hm)).append (zf0 k.1 k.2.1 (k.2.2.moves km))⟩;rw [vaz,vep hg];simpa [zfz] using hj
theorem zzt (R cap:Nat) (a:OA) (ts l:List Tk) (w:World) (h:Rd R a cap ts w l) :
 qc 294 #[pq R 0] w (zeg R a cap ts w (zx1 l) fun x _ v=>v = .tuple #[.string x.1,.string x.2]/\x.1.size<=maxLen/\x.2.size<=maxLen):=by
 have HN:Hid (qc 196 #[pq R 0] w (zeg R a cap ts w (zdo l) fun x _ v=>v = .string x/\x.size<=maxLen)):=zb1 R cap a ts l w h;clear h;go_enter Tryz.func294,Tryz.ntmps294;go_wp2_with fail;refine HN.out.mono ?_;rintro e w1 ⟨AL,⟨hn,rfl⟩ | ⟨x,l1,v,hn,rfl,⟨rfl,hx⟩,AY⟩⟩
 . exact ⟨rfl,AL,Or.inl ⟨by unfold zx1;rw [hn],rfl⟩⟩
 have F0:Hid (zdo l=some (x,l1)):=hn;have HD:Hid (Rd R a cap ts w1 l1):=AY;clear HN hn AY;go_wp2_with fail
 by_cases hs:skB l1 z6t=true
 . refine (zbn R cap a ts l1 z6t w1 aq HD.out hs).mono ?_
   rintro e w2 ⟨rfl,An,AN⟩;go_wp2_with fail;refine (zb1 R cap a ts l1.tail w2 An).mono ?_;rintro e w3 ⟨Ak,⟨FT,rfl⟩ | ⟨y,l3,v,FT,rfl,⟨rfl,hy⟩,Aq⟩⟩
   . exact ⟨rfl,(AL.trans AN).trans Ak,Or.inl ⟨by unfold zx1;rw [F0.out];simp only [];rw [if_pos hs,FT],rfl⟩⟩
   go_wp2_with fail;go_ret2;exact ⟨(AL.trans AN).trans Ak,Or.inr ⟨(x,y),l3,_,by unfold zx1;rw [F0.out];simp only [];rw [if_pos hs,FT],rfl,⟨rfl,hx,hy⟩,Aq⟩⟩
 . have F9:skB l1 z6t=false:=by simpa using hs
   refine (zb7 R cap a ts l1 z6t w1 HD.out F9).mono ?_;rintro e w2 ⟨rfl,An,AN⟩;go_wp2_with fail;go_ret2;exact ⟨AL.trans AN,Or.inr ⟨(⟨#[]⟩,x),l1,_,by unfold zx1;rw [F0.out];simp only [];rw [if_neg hs],rfl,⟨rfl,vaf _,hx⟩,An⟩⟩
theorem zzu (l:List Tk):(zke l opTexts=none/\z0j l=none)\/∃ k:Nat,∃ h:k<opTexts.length,zke l opTexts=some opTexts[k]/\z0j l=some k:=by
 unfold z0j zke
 cases hf:opTexts.findIdx? (fun t=>skB l t) with
 | none=>
   left
   rw [vcq] at hf;refine ⟨List.find?_eq_none.2 fun x hx=>by simpa using hf x hx,rfl⟩
 | some k=>
   right
   obtain ⟨hk,h2,h3⟩:=vbl.1 hf;refine ⟨k,hk,?_,rfl⟩;refine ztc hk ?_ h2;rw [vas];intro x hx;obtain ⟨j,hj,rfl⟩:=List.mem_take_iff_getElem.1 hx
   have Ni:j<k:=ae
   simpa using h3 j Ni
abbrev opSigns:ByteArray:=⟨#[38,124,43,45,42,47,37,61,60]⟩
theorem zzv (w:World):qc 298 #[.string opSigns,.string ⟨#[]⟩] w fun e w'=>∃ b,e = .returned (.slice (some (qa b 0)) 9 9)/\w.heap.size<=b/\b<w'.heap.size/\(∀ i (h:i<opTexts.length),w'.cell? (qa b i)=some (.string opTexts[i]))/\qb w w':=by
 have DI:∀ (j:Nat) b,opSigns.data.toList[j]? = some b->b.toNat<128:=by
  intro j b hj;have hm:=vdo hj
  have A7:∀ x ∈ opSigns.data.toList,x.toNat<128:=aq
  exact A7 b hm
 refine (Tryz.strings_Split_chars opSigns ⟨#[]⟩ w rfl aq DI).mono ?_;rintro e w' ⟨rfl,rfl⟩;refine ⟨_,rfl,by simp [World.iter],by simp [World.iter],fun i hi=>?_,?_⟩
 . have e9:Lib.charsB opSigns=opTexts:=by decide +kernel
   rw [e9,vep (heap_newP _ _)];simp [hi]
 . exact ((Below.refl w.heap.size w).alloc (vaa _) _).alloc aA _
theorem z2v (R cap b:Nat) (a:OA) (ts l:List Tk) (w:World) (h:Rd R a cap ts w l) (hb:b<w.heap.size) (NC:b≠R) (hc:∀ i (h:i<opTexts.length),w.cell? (qa b i)=some (.string opTexts[i])) :
 qc 195 #[pq R 0,.slice (some (qa b 0)) 9 9] w fun e w'=>Keeps R w w'/\((z0j l=none/\e = .panicked zai)\/∃ (k:Nat) (c:UInt8),z0j l=some k/\k<9/\Lib.indexByte opSigns.data.toList c=k/\e = .returned (.string ⟨#[c]⟩)/\Rd R a cap ts w' l.tail):=by
 refine (zks R cap b 9 a ts l opTexts w h hb NC aq hc aq).mono ?_;rintro e w' ⟨hk,hr⟩;refine ⟨hk,?_⟩
 rcases zzu l with ⟨hm,ho⟩ | ⟨k,hk,hm,ho⟩
 . rw [hm] at hr
   rcases hr with ⟨_,rfl⟩ | ⟨_,_,_,h0,_⟩
   . exact Or.inl ⟨ho,rfl⟩
   . cases h0
 . rw [hm] at hr
   rcases hr with ⟨h0,_⟩ | ⟨t3,l3,v3,h0,rfl,rfl,Aq⟩
   . cases h0
   . obtain ⟨rfl,rfl⟩:=vap (vab h0)
     right
     have hs:∀ k (h:k<opTexts.length),∃ c:UInt8,opTexts[k]=⟨#[c]⟩/\Lib.indexByte opSigns.data.toList c=k:=by
      intro k hk;have FY:k<9:=hk
      obtain rfl | rfl | rfl | rfl | rfl | rfl | rfl | rfl | rfl:k=0\/k=1\/k=2\/k=3\/k=4\/k=5\/k=6\/k=7\/k=8:=ae
      all_goals exact ⟨_,rfl,by decide +kernel⟩
     obtain ⟨c,Bk,C7⟩:=hs k hk;exact ⟨k,c,ho,hk,C7,by rw [Bk],Aq⟩
theorem Tryz.infoP80:(Tryz.prog.info? 174).map (fun i=>(i.zero,i.size,i.bytes))=some (some (.agg #[qi 0,qi 0,.string ⟨#[]⟩,.string ⟨#[]⟩,qs]),5,72):=ah
theorem Tryz.infoP48:(Tryz.prog.info? 176).map (fun i=>(i.zero,i.size,i.bytes))=some (some (.agg #[qi 0,.string ⟨#[]⟩,.string ⟨#[]⟩,qs,qs,qs]),6,112):=ah
theorem Tryz.infoP56:(Tryz.prog.info? 170).map (fun i=>(i.zero,i.size,i.bytes))=some (some (.agg #[qi 0,.string ⟨#[]⟩,.bool false,qi 0]),4,40):=ah
theorem Tryz.infoP60:(Tryz.prog.info? 118).map (fun i=>(i.zero,i.size,i.bytes))=some (some (.agg #[.string ⟨#[]⟩,.bool false,qs,qs,qs]),5,96):=ah
theorem Tryz.infoP9:(Tryz.prog.info? 9).map (fun i=>(i.zero,i.size,i.bytes))=some (some (.string ⟨#[]⟩),1,16):=ah
theorem zzw {R:Nat} {w w':World} {base:Nat} {e:TypeId} {size:Nat} {v:Value} {n:Nat} {xs:List Value} (h:w.ownsRow base e size v n xs) (hk:Keeps R w w') (hR:R<base):w'.ownsRow base e size v n xs:=by
 refine ⟨h.1,?_⟩
 rcases h.2 with h2 | ⟨g,cap,AD,h1,hb,hg,hr⟩
 . exact Or.inl h2
 . exact Or.inr ⟨g,cap,AD,h1,hb,(hk.block g (lt_of_heap hg) ae).trans hg,hr⟩
def ze5 (lo:Nat) (v:Value) (b:Nat):Prop:=lo<=b/\v.ownBlock≠some b
def Row (base:Nat) (e:TypeId) (size:Nat) (w:World) (v:Value) (n:Nat) (ds:List D):Prop:=∃ xs,w.ownsRow base e size v n xs/\zav w (ze5 base v) ds xs
section
variable {base:Nat} {e:TypeId} {size:Nat} {w w':World} {v:Value} {n R:Nat} {ds:List D}
theorem Row.nil (base:Nat) (e:TypeId) (size:Nat) (w:World):Row base e size w (qs) 0 []:=⟨[],ves _ _ _ _,.nil⟩
theorem Row.keeps (h:Row base e size w v n ds) (hk:Keeps R w w') (hR:R<base):Row base e size w' v n ds:=by
 obtain ⟨xs,h1,h2⟩:=h;refine ⟨xs,zzw h1 hk hR,h2.moves ((zad.refl w _).keeps hk ?_)⟩
 intro b _ hb;have:=hb.1;omega
theorem Row.later (h:Row base e size w v n ds) (hb:qb w w'):Row base e size w' v n ds:=by
 obtain ⟨xs,h1,h2⟩:=h;exact ⟨xs,ownsRow_later h1 hb,h2.moves (zad.of_below hb _)⟩
theorem Row.alloc (h:Row base e size w v n ds) (o:Obj):Row base e size (w.alloc o) v n ds:=h.later ((Below.refl _ _).alloc (vaa _) o)
theorem Row.set (h:Row base e size w v n ds) {p:Addr} (hp:p.block<base) (u:Value):Row base e size (w.setCell p u) v n ds:=by
 obtain ⟨xs,h1,h2⟩:=h;refine ⟨xs,ownsRow_setCell_below h1 hp u,h2.moves ((zad.refl w _).set ?_ u)⟩
 intro b _ hb;have:=hb.1;omega
theorem Row.slice (h:Row base e size w v n ds):∃ a cap,v = .slice a n cap/\EAt w (base<=·) a n ds:=by
 obtain ⟨xs,h1,h2⟩:=h
 have hm:zad w (ze5 base v) w (base<=·):=⟨vaa _,fun b _ hb=>⟨hb.1,rfl⟩⟩
 rcases h1.2 with ⟨rfl,rfl⟩ | ⟨g,cap,AD,rfl,_⟩
 . exact ⟨none,0,rfl,Or.inl rfl⟩
 . exact ⟨_,cap,rfl,EAt.of_own h1 (fun _ h=>h) (h2.moves hm)⟩
theorem Row.lt (h:Row base e size w v n ds):∀ k,v.ownBlock=some k->base<=k/\k<w.heap.size:=by
 obtain ⟨xs,h1,_⟩:=h;exact h1.lt
theorem Row.one {A:Nat->Prop} {cs:Array Value} {g:Nat} (hg:w.heap[g]? = some (.cells cs e (0,0))) (hb:base<=g) (hs:cs.size=size) (hd:zav w A ds cs.toList) (hA:∀ b,b<w.heap.size->A b->base<=b/\b≠g) :
 Row base e size w (.slice (some (qa g 0)) 1 1) 1 ds:=by
 refine ⟨cs.toList,⟨eE,Or.inr ⟨g,1,cs,rfl,hb,hg,vaa _,aP,ae,by rw [vdt,← hs];exact vav aA⟩⟩,hd.moves ⟨vaa _,fun b h1 h2=>⟨⟨(hA b h1 h2).1,fun h=>(hA b h1 h2).2 ?_⟩,rfl⟩⟩⟩;simp only [Value.ownBlock] at h;exact (vab h).symm
theorem Row.first {A:Nat->Prop} {cs:Array Value} (hd:zav w A ds cs.toList) (hA:∀ b,b<w.heap.size->A b->base<=b) (hb:base<=w.heap.size) (hs:cs.size=size) :
 Row base e size (w.alloc (.cells cs e)) (.slice (some (qa w.heap.size 0)) 1 1) 1 ds:=by
 refine Row.one (heap_newP w _) hb hs (A:=fun b=>A b/\b<w.heap.size) (hd.moves ⟨aA,fun b h1 h2=>⟨⟨h2,h1⟩,((Below.refl w.heap.size w).alloc (vaa _) (.cells cs e)).block b h1⟩⟩) ?_;intro b _ h2;exact ⟨hA b h2.2 h2.1,ae⟩
end
theorem zbv {P:Program} {ops:Array Oper} {rest:List Oper} {o:Oper} {a:Act} {Q:Exit->Act->World->Prop} (BK:o.guard=none) (s x:Operand) (t:TypeId)
 (ho:o.op = .call { callee:=.builtin .append,args:=#[s,x],argTypes:=#[t,t] }) (base:Nat) (e:TypeId) (z:Value) (size bytes:Nat) (ht:P.underlying t=some (.slice e))
 (hi:(P.info? e).map (fun i=>(i.zero,i.size,i.bytes))=some (some z,size,bytes)) (G7:z.cells.size=size) (Cy:0<size) (w:World) (v:Value) (n:Nat) (ds nd:List D) (hs:a.eval s=v) (Aa:Row base e size w v n ds)
 (cs:Array Value) (H:Nat) (hH:H=w.heap.size) (hx:a.eval x = .slice (some (qa H 0)) 1 1) (B5:cs.size=size) (A:Nat->Prop) (Jf:zav w A nd cs.toList) (hA:∀ b,b<w.heap.size->A b->ze5 base v b)
 (hn:n<=5000) (DF:bytes<=200) (AQ:base<=w.heap.size)
 (h:∀ g cap w',Row base e size w' (.slice (some (qa g 0)) (n+1) cap) (n+1) (ds++nd)->Below base w w'->w.heap.size<w'.heap.size->wpList P ops Q rest (a.put o.dst (.slice (some (qa g 0)) (n+1) cap)) w') :
 wpList P ops Q (o :: rest) a (w.alloc (.cells cs e)):=by
 obtain ⟨i0,hi,Bx,Ao,Ay⟩:=info_parts hi;obtain ⟨xs,Ag,Km⟩:=Aa
 have Cg:(w.alloc (.cells cs e)).heap.size=w.heap.size+1:=aA
 refine wpList_append_lies (w.alloc (.cells cs e)) BK s x t ho base e i0 z size bytes ht hi Bx Ao Ay G7 Cy v n xs hs (Ag.alloc _) (qa H 0) 1 1 cs.toList hx (by simp [B5]) ?_ Jf.one ae aP ?_ ae _ rfl ?_
 . exact fZ
 . have:(n+1)*bytes<=5001*200:=vdz ae DF
   omega
 . exact fI
theorem zbm {P:Program} {ops:Array Oper} {o:Oper} {a:Act} {K:Act->World->Prop} {Q:Exit->Act->World->Prop} {E:Prop} (BK:o.guard=none) (s x:Operand) (t:TypeId)
 (ho:o.op = .call { callee:=.builtin .append,args:=#[s,x],argTypes:=#[t,t] }) (base:Nat) (e:TypeId) (z:Value) (size bytes:Nat) (ht:P.underlying t=some (.slice e))
 (hi:(P.info? e).map (fun i=>(i.zero,i.size,i.bytes))=some (some z,size,bytes)) (G7:z.cells.size=size) (Cy:0<size) (w:World) (v:Value) (n:Nat) (ds nd:List D) (hs:a.eval s=v) (Aa:Row base e size w v n ds)
 (cs:Array Value) (H:Nat) (hH:H=w.heap.size) (hx:a.eval x = .slice (some (qa H 0)) 1 1) (B5:cs.size=size) (A:Nat->Prop) (Jf:zav w A nd cs.toList) (hA:∀ b,b<w.heap.size->A b->ze5 base v b)
 (hn:n<=5000) (DF:bytes<=200) (AQ:base<=w.heap.size)
 (h:∀ g cap w',Row base e size w' (.slice (some (qa g 0)) (n+1) cap) (n+1) (ds++nd)->Below base w w'->w.heap.size<w'.heap.size->K (a.put o.dst (.slice (some (qa g 0)) (n+1) cap)) w') :
 if Region.wanted o (yielded ops a.tmps)=true then Oper.wp P o a (w.alloc (.cells cs e)) K Q else E:=by
 obtain ⟨i0,hi,Bx,Ao,Ay⟩:=info_parts hi;obtain ⟨xs,Ag,Km⟩:=Aa
 have Cg:(w.alloc (.cells cs e)).heap.size=w.heap.size+1:=aA
 refine step_append_lies (w.alloc (.cells cs e)) BK s x t ho base e i0 z size bytes ht hi Bx Ao Ay G7 Cy v n xs hs (Ag.alloc _) (qa H 0) 1 1 cs.toList hx (by simp [B5]) ?_ Jf.one ae aP ?_ ae _ rfl ?_
 . exact fZ
 . have:(n+1)*bytes<=5001*200:=vdz ae DF
   omega
 . exact fI
section
variable {R cap:Nat} {a:OA} {ts l l0:List Tk} {w w0 w':World}
theorem Rd.belowOf (h:Rd R a cap ts w l) (h0:Rd R a cap ts w0 l0) (hb:Below w0.heap.size w w'):Rd R a cap ts w' l:=by
 refine ⟨?_,?_,h.ne,h.len⟩
 . obtain ⟨k,h1,h2,h3⟩:=h.idx
   exact ⟨k,h1,h2,(hb.block R h0.lt).trans h3⟩
 . rcases h0.toks with h4 | ⟨b,off,ha,h4⟩
   . exact Or.inl h4
   . rcases h.toks with h5 | ⟨b',BN,Cr,h5⟩
     . exact Or.inl h5
     . have eq:b'=b:=by rw [ha] at Cr;injection Cr with Cr;injection Cr with e1 e2;exact e1.symm
       subst eq;exact Or.inr ⟨b',BN,Cr,h5.below hb h4.lt⟩
theorem Keeps.belowOf (h:Keeps R w0 w) (hb:Below w0.heap.size w w'):Keeps R w0 w':=
 ⟨hb.os.trans h.os,hb.tape.trans h.tape,hb.output.trans h.output,vbd h.size hb.size,fun k h1 h2=>(hb.block k h1).trans (h.block k h1 h2)⟩
end
def zih (R n:Nat) (w:World):Nat:=match w.cell? ⟨R,1,none⟩ with | some (.int _ k)=>n - k.toNat | _=>0
theorem Rd.left {R cap:Nat} {a:OA} {ts l:List Tk} {w:World} (h:Rd R a cap ts w l):zih R ts.length w=l.length:=by
 obtain ⟨k,hk,rfl,hb⟩:=h.idx;unfold zih;rw [vep hb];simp
set_option maxHeartbeats 1600000
def z92 (A:Nat->Prop) (xs:List Ex) (w:World) (v:Value):Prop:=∃ a cap,v = .slice a xs.length cap/\EAt w A a xs.length (zbr xs)
structure ExC (R cap:Nat) (a:OA) (ts:List Tk) (f:Nat):Prop where
 expr:∀ (l:List Tk) (w:World),Rd R a cap ts w l->3*l.length+1<=f->qc 283 #[pq R 0] w (zeg R a cap ts w (zbp f l) (zhd (w.heap.size<=·)))
 pair:∀ (l:List Tk) (w:World),Rd R a cap ts w l->3*l.length+2<=f->qc 293 #[pq R 0] w (zeg R a cap ts w (zgv f l) (zhd (w.heap.size<=·)))
 args:∀ (l:List Tk) (w:World),Rd R a cap ts w l->3*l.length+2<=f->qc 295 #[pq R 0] w (zeg R a cap ts w (zex f l) (z92 (w.heap.size<=·)))
theorem zzx (R cap:Nat) (a:OA) (ts:List Tk) (f:Nat) (IH:ExC R cap a ts f) (l:List Tk) (w:World) (h:Rd R a cap ts w l) (hf:3*l.length+2<=f+1) :
 qc 293 #[pq R 0] w (zeg R a cap ts w (zgv (f+1) l) (zhd (w.heap.size<=·))):=by
 have HI:Hid (ExC R cap a ts f):=IH;have HR:Hid (Rd R a cap ts w l):=h;have CO:=h.lt;clear IH h;go_enter Tryz.func293,Tryz.ntmps293;go_wp2_with fail;refine (HI.out.expr l _ (HR.out.alloc _) ae).mono ?_;rintro e w1 ⟨AL,⟨hn,rfl⟩ | ⟨x,l1,v,hn,rfl,⟨a1,c1,rfl,AP,AG,hx3⟩,AY⟩⟩
 . exact ⟨rfl,((Keeps.refl R w).alloc _).trans AL,Or.inl ⟨by unfold zgv;rw [hn],rfl⟩⟩
 have F0:Hid (zbp f l=some (x,l1)):=hn
 have AF:Hid (x.mod.size<=maxLen/\x.name.size<=maxLen/\EAt w1 ((w.heap.size+1)<=·) a1 x.args.length (zbr x.args)):=⟨AP,AG,by simpa using hx3⟩
 have BP:Hid (Rd R a cap ts w1 l1):=AY;have Fg:=zcq _ _ _ _ hn;have Ao:=AL.size;simp at Ao;clear hn AP AG hx3 AY;have B3:Hid (Keeps R w w1):=((Keeps.refl R w).alloc _).trans AL;have A8:Hid (w1.heap[w.heap.size]? = some (.cells #[qi 0,qi 0,.string ⟨#[]⟩,.string ⟨#[]⟩,qs] 174 (0,0))):=(AL.block w.heap.size aA ae).trans (heap_newP _ _);clear AL;go_wp2_with fail;refine (zzv _).mono ?_;rintro e w2 ⟨b,rfl,A6,Ab,hbc,Ad⟩;have AN:Hid (Keeps R w1 w2):=((Keeps.refl R w1).alloc _).later Ad;have An:Hid (Rd R a cap ts w2 l1):=(BP.out.alloc _).later Ad;have Bl:Hid (w2.heap[w1.heap.size]? = some (.cells #[qi x.op,qi x.n,.string x.mod,.string x.name,.slice a1 x.args.length c1] 174 (0,0))):=(Ad.block w1.heap.size aA).trans (heap_newP _ _);have Ay:=Ad.size;simp at Ay A6;clear Ad;go_wp2_with fail
 refine (z2v R cap b a ts l1 w2 An.out Ab ae hbc).mono ?_;rintro e w3 ⟨Ak,⟨ho,rfl⟩ | ⟨k,c,ho,PD,LP,rfl,Aq⟩⟩
 . exact ⟨rfl,(B3.out.trans AN.out).trans Ak,Or.inl ⟨by unfold zgv;rw [F0.out];simp only [];rw [ho],rfl⟩⟩
 have BB:=Ak.size;have HM:Hid (z0j l1=some k):=ho;have Qz:Hid (Lib.indexByte opSigns.data.toList c=k):=LP;have CC:=zji (z0m ho);have Cc:Hid (Keeps R w w3):=(B3.out.trans AN.out).trans Ak;have BM:Hid (w3.heap[w1.heap.size]? = some (.cells #[qi x.op,qi x.n,.string x.mod,.string x.name,.slice a1 x.args.length c1] 174 (0,0))):=(Ak.block w1.heap.size ae ae).trans Bl.out;have M9:Hid (zad w1 (w.heap.size+1<=·) w3 (w.heap.size+1<=·)):=((zad.refl w1 _).keeps AN.out fh).keeps Ak fh;clear ho hbc Bl An LP;have CP:Hid (Rd R a cap ts w3 l1.tail):=Aq;clear Aq;go_wp2_with fail;refine (HI.out.expr l1.tail w3 CP.out ae).mono ?_;rintro e w4 ⟨Az,⟨hn,rfl⟩ | ⟨y,l4,v,hn,rfl,⟨a4,c4,rfl,Di,D0,DB⟩,AU⟩⟩
 . exact ⟨rfl,Cc.out.trans Az,Or.inl ⟨by unfold zgv;rw [F0.out];simp only [];rw [HM.out];simp only [];rw [hn],rfl⟩⟩
 have L2:Hid (zbp f l1.tail=some (y,l4)):=hn
 have Ei:Hid (y.mod.size<=maxLen/\y.name.size<=maxLen/\EAt w4 (w3.heap.size<=·) a4 y.args.length (zbr y.args)):=⟨Di,D0,DB⟩
 have C8:Hid (Rd R a cap ts w4 l4):=AU;have BR:Hid (Keeps R w w4):=Cc.out.trans Az;have Qi:Hid (zad w1 (w.heap.size+1<=·) w4 (w.heap.size+1<=·)):=M9.out.keeps Az fh;have Df:Hid (w4.heap[w1.heap.size]? = some (.cells #[qi x.op,qi x.n,.string x.mod,.string x.name,.slice a1 x.args.length c1] 174 (0,0))):=(Az.block w1.heap.size ae ae).trans BM.out;have Db:=Az.size;have Ap:Hid (w4.heap[w.heap.size]? = some (.cells #[qi 0,qi 0,.string ⟨#[]⟩,.string ⟨#[]⟩,qs] 174 (0,0))):=(Az.block w.heap.size ae ae).trans ((Ak.block w.heap.size ae ae).trans ((AN.out.block w.heap.size ae ae).trans A8.out));clear hn Di D0 DB AU Az BM M9 Cc CP;go_wp2_with fail;refine (zfy R cap _ a ts l4 tRp _ aA (C8.out.alloc _) aq).mono ?_;rintro e w5 ⟨Ax,⟨GT,rfl⟩ | ⟨GT,rfl,Bp⟩⟩
 . exact ⟨rfl,(BR.out.alloc _).trans Ax,Or.inl ⟨by unfold zgv;rw [F0.out];simp only [];rw [HM.out];simp only [];rw [L2.out];simp only [];rw [if_neg (by simp [GT])],rfl⟩⟩
 have HP:Hid (zgv (f+1) l=some (.mk (7+k) 0 ⟨#[]⟩ ⟨#[]⟩ [x,y],l4.tail)):=by show zgv (f+1) l=_;unfold zgv;rw [F0.out];simp only [];rw [HM.out];simp only [];rw [L2.out];simp only [];rw [if_pos GT]
 have Cf:=Ax.size;simp at Cf;have C5:Hid (w5.heap[w1.heap.size]? = some (.cells #[qi x.op,qi x.n,.string x.mod,.string x.name,.slice a1 x.args.length c1] 174 (0,0))):=(Ax.block w1.heap.size aF ae).trans (zab Df.out);have Ts:Hid (w5.heap[w4.heap.size]? = some (.cells #[qi y.op,qi y.n,.string y.mod,.string y.name,.slice a4 y.args.length c4] 174 (0,0))):=(Ax.block w4.heap.size aA ae).trans (heap_newP _ _);have At:Hid (w5.heap[w.heap.size]? = some (.cells #[qi 0,qi 0,.string ⟨#[]⟩,.string ⟨#[]⟩,qs] 174 (0,0))):=(Ax.block w.heap.size aF ae).trans (zab Ap.out);obtain ⟨f0,f1,f2,f3,f4,f5⟩:=zaa C5.out;obtain ⟨g0,g1,g2,g3,g4,g5⟩:=zaa Ts.out;obtain ⟨h0,h1,h2,h3,h4,h5⟩:=zaa At.out;have Hg:Hid (zad w1 (w.heap.size+1<=·) w5 (w.heap.size+1<=·)):=(Qi.out.alloc _).keeps Ax fh
 have Jq:Hid (zad w4 (w3.heap.size<=·) w5 (w3.heap.size<=·)):=((zad.refl w4 _).alloc _).keeps Ax fh;have DN:Hid (Rd R a cap ts w5 l4.tail):=Bp;have CG:Hid (Keeps R w w5):=(BR.out.alloc _).trans Ax;clear Ax Bp GT Df Qi C8
 have Tj:Hid (∀ w:World,qc 299 #[.string opSigns,.string ⟨#[c]⟩] w fun e w'=>e = .returned (qi k)/\w'=w):=fun w=>by rw [← Qz.out];exact Tryz.strings_Index_one opSigns c w
 have DD:w.heap.size<w5.heap.size:=ae
 have DC:w1.heap.size<w5.heap.size:=ae
 have MQ:w4.heap.size<w5.heap.size:=ae
 clear Qz
 have JR:IntKind.i64.wrap (7+(k:Int))=7+k:=aK
 have FIN:∀ W:World,W=(((((w5.setCell (qa w.heap.size 0) (qi (7+k))).setCell (qa w.heap.size 1) (qi 0)).setCell (qa w.heap.size 2) (.string ⟨#[]⟩)).setCell (qa w.heap.size 3) (.string ⟨#[]⟩)).setCell (qa w.heap.size 4) (.slice (some (qa w5.heap.size 0)) 2 2)).alloc (.cells #[qi x.op,qi x.n,.string x.mod,.string x.name,.slice a1 x.args.length c1,qi y.op,qi y.n,.string y.mod,.string y.name,.slice a4 y.args.length c4] 174)->
  zeg R a cap ts w (zgv (f+1) l) (zhd (w.heap.size<=·)) (.returned (.agg #[qi (7+k),qi 0,.string ⟨#[]⟩,.string ⟨#[]⟩,.slice (some (qa w5.heap.size 0)) 2 2])) W.drew:=by
  rintro W rfl;refine ⟨Keeps.drew (Keeps.alloc (((((CG.out.set (vaa _) _).set (vaa _) _).set (vaa _) _).set (vaa _) _).set (vaa _) _) _),Or.inr ⟨_,_,_,HP.out,rfl,⟨some (qa w5.heap.size 0),2,rfl,vaf _,vaf _,?_⟩,Rd.drew (Rd.alloc (((((DN.out.setAbove HR.out (vaa _) _).setAbove HR.out (vaa _) _).setAbove HR.out (vaa _) _).setAbove HR.out (vaa _) _).setAbove HR.out (vaa _) _) _)⟩⟩;refine z8e (t:=174) (cap:=c1) (dap:=c4) AF.out Ei.out (zad.drew (zad.alloc (zad.set (zad.set (zad.set (zad.set (zad.set (Hg.out.to ae) ?_ _) ?_ _) ?_ _) ?_ _) ?_ _) _)) (zad.drew (zad.alloc (zad.set (zad.set (zad.set (zad.set (zad.set (Jq.out.to ae) ?_ _) ?_ _) ?_ _) ?_ _) ?_ _) _)) ?_ ae
  all_goals first | (intro b;simp only [];omega) | skip
  have e:=heap_newP (((((w5.setCell (qa w.heap.size 0) (qi (7+k))).setCell (qa w.heap.size 1) (qi 0)).setCell (qa w.heap.size 2) (.string ⟨#[]⟩)).setCell (qa w.heap.size 3) (.string ⟨#[]⟩)).setCell (qa w.heap.size 4) (.slice (some (qa w5.heap.size 0)) 2 2)) (.cells #[qi x.op,qi x.n,.string x.mod,.string x.name,.slice a1 x.args.length c1,qi y.op,qi y.n,.string y.mod,.string y.name,.slice a4 y.args.length c4] 174);simp only [vaq] at e;exact e
 have OE:Hid _:=FIN;clear FIN;go_wp2_with fail
 go_region_with (go_at_call 299;refine (Tj.out _).mono ?_;rintro e w' ⟨rfl,rfl⟩)
 all_goals go_wp2_with fail
 all_goals refine bodyPost_ret (v:=.agg #[qi (7+k),qi 0,.string ⟨#[]⟩,.string ⟨#[]⟩,.slice (some (qa w5.heap.size 0)) 2 2]) (by simp [results,Tryz.results293,go_sem,h0,h1,h2,h3,h4,DD]) rfl ?_
 all_goals exact OE.out _ rfl
theorem z8f (l:List Tk) (t u:ByteArray):zke l [t,u]=if skB l t then some t else if skB l u then some u else none:=by
 unfold zke;rw [vcu,vcu];cases skB l t<;>cases skB l u<;>rfl
theorem z8g (R cap n:Nat) (a:OA) (ts l:List Tk) (t u:ByteArray) (w:World) (hn:n=w.heap.size) (h:Rd R a cap ts w l) (ht:0<t.size) (hu:0<u.size) :
 qc 195 #[pq R 0,.slice (some (qa n 0)) 2 2] (w.alloc (.cells #[.string t,.string u] 9)) fun e w'=>Keeps R w w'/\((skB l t=false/\skB l u=false/\e = .panicked zai)\/(skB l t=true/\e = .returned (.string t)/\Rd R a cap ts w' l.tail)\/(skB l t=false/\skB l u=true/\e = .returned (.string u)/\Rd R a cap ts w' l.tail)):=by
 have A0:=h.lt;subst hn;refine (zks R cap w.heap.size 2 a ts l [t,u] _ (h.alloc _) aA ae aA (fun i hi=>?_) (fun i hi=>?_)).mono ?_
 . obtain rfl | rfl:i=0\/i=1:=by simp at hi;omega
   all_goals simp
 . obtain rfl | rfl:i=0\/i=1:=by simp at hi;omega
   . exact ht
   . exact hu
 . rintro e w' ⟨hk,hr⟩
   refine ⟨((Keeps.refl R w).alloc _).trans hk,?_⟩;rw [z8f] at hr
   cases hs:skB l t<;>cases AA:skB l u<;>rw [hs,AA] at hr<;>simp only [vcx,if_false,if_true,Option.map_none,Option.map_some] at hr
   . rcases hr with ⟨_,rfl⟩ | ⟨x,l',v,hr,_⟩
     . exact Or.inl ⟨rfl,rfl,rfl⟩
     . cases hr
   . rcases hr with ⟨hr,_⟩ | ⟨x,l',v,hr,rfl,rfl,hR⟩
     . cases hr
     . obtain ⟨rfl,rfl⟩:=vap (vab hr)
       exact Or.inr (Or.inr ⟨rfl,rfl,rfl,hR⟩)
   all_goals
    rcases hr with ⟨hr,_⟩ | ⟨x,l',v,hr,rfl,rfl,hR⟩
    . cases hr
    . obtain ⟨rfl,rfl⟩:=vap (vab hr)
      exact Or.inr (Or.inl ⟨rfl,rfl,hR⟩)
theorem zzy (R cap:Nat) (a:OA) (ts:List Tk) (f:Nat) (IH:∀ g,g<=f->ExC R cap a ts g) (l:List Tk) (w:World) (h:Rd R a cap ts w l) (hf:3*l.length+2<=f+1) :
 qc 295 #[pq R 0] w (zeg R a cap ts w (zex (f+1) l) (z92 (w.heap.size<=·))):=by
 have HI:Hid (∀ g,g<=f->ExC R cap a ts g):=IH;have HR:Hid (Rd R a cap ts w l):=h;have CO:=h.lt
 have I8:l.length<=4096:=by
  exact ik
 clear IH h;go_enter Tryz.func295,Tryz.ntmps295;go_wp2_with fail
 by_cases hs:skB l tRp=true
 . refine (zbn R cap a ts l tRp w aq HR.out hs).mono ?_
   rintro e w1 ⟨rfl,AY,AL⟩;go_wp2_with fail;go_ret;exact ⟨AL,Or.inr ⟨[],l.tail,_,by unfold zex;rw [if_pos hs],rfl,⟨none,0,rfl,Or.inl rfl⟩,AY⟩⟩
 have F9:skB l tRp=false:=by simpa using hs
 refine (zb7 R cap a ts l tRp w HR.out F9).mono ?_;rintro e w1 ⟨rfl,AY,AL⟩;have BP:Hid (Rd R a cap ts w1 l):=AY;have B3:Hid (Keeps R w w1):=AL;have Ao:=AL.size;clear AY AL;go_wp2_with fail;refine ((HI.out f (vaa _)).expr l w1 BP.out ae).mono ?_;rintro e w2 ⟨AN,⟨hn,rfl⟩ | ⟨x,l2,v,hn,rfl,⟨a2,c2,rfl,AP,AG,hx3⟩,An⟩⟩
 . exact ⟨rfl,B3.out.trans AN,Or.inl ⟨by unfold zex;rw [if_neg hs,hn],rfl⟩⟩
 have Ch:=zcq _ _ _ _ hn
 have HP:Hid (zex (f+1) l=zhf f [x] l2):=by show zex (f+1) l=_;unfold zex;rw [if_neg hs,hn]
 have D7:Hid (Rd R a cap ts w2 l2):=An;have BX:Hid (Keeps R w w2):=B3.out.trans AN;have HX:Hid (zav w2 (w1.heap.size<=·) x.ds (zfz x a2 c2)):=zf0 AP AG hx3;have Ay:=AN.size;clear hn An AN AP AG hx3 hs F9 BP B3;go_wp2_with fail
 go_loopw [3] (fun v wr=>∃ (g:Nat) (A5:List Ex) (l':List Tk),g<=f/\zex (f+1) l=zhf g A5 l'/\3*l'.length+3<=g/\A5.length+l'.length<=l.length/\Row w.heap.size 174 5 wr v A5.length (zbr A5)/\Rd R a cap ts wr l'/\Keeps R w wr) (fun _ wr=>zih R ts.length wr)
 case atStart=>
  refine ⟨f,[x],l2,vaa _,HP.out,ae,aF,?_,D7.out.alloc _,BX.out.alloc _⟩;rw [zkt];exact Row.first (cs:=#[qi x.op,qi x.n,.string x.mod,.string x.name,.slice a2 x.args.length c2]) HX.out (fun b _ h=>ae) ae rfl
 case round=>
  obtain ⟨g,A5,l',hg,hpm,Ah,hacc,Aa,Dv,Be⟩:=hrel;have HG:Hid (zex (f+1) l=zhf g A5 l'):=hpm;have HO:Hid (Row w.heap.size 174 5 wr u3 A5.length (zbr A5)):=Aa;have HD:Hid (Rd R a cap ts wr l'):=Dv;have HE:Hid (Keeps R w wr):=Be;have C1:=Be.size
  obtain ⟨g,rfl⟩:∃ g',g=g'+1:=⟨g - 1,ae⟩
  clear hpm Aa Dv Be HP HX;go_wp2_with fail;refine (z8g R cap _ a ts l' z3n tRp _ aA HD.out aq aq).mono ?_;rintro e w3 ⟨Ak,⟨h1,h2,rfl⟩ | ⟨h1,rfl,Aq⟩ | ⟨h1,h2,rfl,Aq⟩⟩
  . exact ⟨rfl,HE.out.trans Ak,Or.inl ⟨by rw [HG.out];unfold zhf;rw [if_neg cJ,if_neg dU],rfl⟩⟩
  . have CC:=zaj aq h1
    have BB:=Ak.size;go_wp2_with fail;refine ((HI.out g ae).expr l'.tail w3 Aq ae).mono ?_;rintro e w4 ⟨Az,⟨hn,rfl⟩ | ⟨y,l4,v,hn,rfl,⟨a4,c4,rfl,AP,AG,hx3⟩,AU⟩⟩
    . exact ⟨rfl,(HE.out.trans Ak).trans Az,Or.inl ⟨by rw [HG.out];unfold zhf;rw [if_pos h1,hn],rfl⟩⟩
    have FV:=zcq _ _ _ _ hn
    have HP:Hid (zex (f+1) l=zhf g (A5++[y]) l4):=by show zex (f+1) l=_;rw [HG.out];unfold zhf;rw [if_pos h1,hn];cases g<;>rfl
    have Ei:Hid (zav w4 (w3.heap.size<=·) y.ds (zfz y a4 c4)):=zf0 AP AG hx3;have C8:Hid (Rd R a cap ts w4 l4):=AU;have BR:Hid (Keeps R w w4):=(HE.out.trans Ak).trans Az;have EH:Hid (Row w.heap.size 174 5 w4 u3 A5.length (zbr A5)):=(HO.out.keeps Ak CO).keeps Az CO;have Db:=Az.size
    have HL:Hid (∀ k,u3.ownBlock=some k->k<w3.heap.size):=fun k hk=>((HO.out.keeps Ak CO).lt k hk).2
    have Ev:=HD.out.left;clear hn Aq AU Ak Az AP AG hx3
    go_wp2_with (at_builtin;refine zbv rfl (.tmp 13) (.tmp 16) 172 rfl w.heap.size 174 _ 5 72 Tryz.underlying172 Tryz.infoP80 rfl aq w4 u3 A5.length (zbr A5) y.ds rfl EH.out _ _ rfl rfl rfl (w3.heap.size<=·) Ei.out ?_ ae aq ae ?_)
    . exact jL
    . intro g5 c5 w5 Bw At Cf
      have Ba:Hid (Row w.heap.size 174 5 w5 (.slice (some (qa g5 0)) (A5.length+1) c5) (A5.length+1) (zbr A5++y.ds)):=Bw;have Bp:Hid (Rd R a cap ts w5 l4):=C8.out.belowOf HR.out At;have Ax:Hid (Keeps R w w5):=BR.out.belowOf At;have Gk:=Bp.out.left;clear Bw At EH C8 BR Ei;go_wp2_with fail;go_roundw
      case rel=>exact ⟨g,A5++[y],l4,ae,HP.out,ae,aF,by rw [zh2,zkt,vaj];exact Ba.out,Bp.out,Ax.out⟩
      case measure=>rw [Gk,Ev];omega
  . have HP:Hid (zex (f+1) l=some (A5,l'.tail)):=by show zex (f+1) l=_;rw [HG.out];unfold zhf;rw [if_neg cJ,if_pos h2]
    have D9:Hid (Row w.heap.size 174 5 w3 u3 A5.length (zbr A5)):=HO.out.keeps Ak CO;exact iU
set_option maxHeartbeats 3200000
abbrev zcl:Obj:=.cells #[qi 0,qi 0,.string ⟨#[]⟩,.string ⟨#[]⟩,qs] 174 (0,0)
theorem znv {R cap:Nat} {a:OA} {ts l l':List Tk} {w w1:World} {r:Option (Ex × List Tk)} {x:Ex} {a1:OA} {c1:Nat} (h0:Rd R a cap ts w l) (hr:r=some (x,l')) (hk:Keeps R w w1) (Dv:Rd R a cap ts w1 l')
 (AP:x.mod.size<=maxLen) (AG:x.name.size<=maxLen) {lo:Nat} (hx:EAt w1 (lo<=·) a1 x.args.length (zbr x.args)) (D4:w.heap.size<lo) :
 zeg R a cap ts w r (zhd (w.heap.size<=·)) (.returned (.agg #[qi x.op,qi x.n,.string x.mod,.string x.name,.slice a1 x.args.length c1])) (set5 w1 w.heap.size (qi x.op) (qi x.n) (.string x.mod) (.string x.name) (.slice a1 x.args.length c1)):=by
 refine ⟨hk.set5 (vaa _) _ _ _ _ _,Or.inr ⟨x,l',_,hr,rfl,⟨a1,c1,rfl,AP,AG,?_⟩,Dv.set5 h0 (vaa _) _ _ _ _ _⟩⟩;exact hx.moves (((zad.refl w1 (lo<=·)).set5 cT _ _ _ _ _).to ae)
theorem z6e {R cap:Nat} {a:OA} {ts l l':List Tk} {w w1:World} {r:Option (Ex × List Tk)} {op n:Int} {mod name:ByteArray} {y:Ex} {a1:OA} {c1:Nat} (h0:Rd R a cap ts w l) (hr:r=some (.mk op n mod name [y],l')) (hk:Keeps R w w1) (Dv:Rd R a cap ts w1 l')
 (AP:mod.size<=maxLen) (AG:name.size<=maxLen) {lo:Nat} (Di:y.mod.size<=maxLen) (D0:y.name.size<=maxLen) (hy:EAt w1 (lo<=·) a1 y.args.length (zbr y.args)) (D4:w.heap.size<lo) (Rx:lo<=w1.heap.size) :
 zeg R a cap ts w r (zhd (w.heap.size<=·)) (.returned (.agg #[qi op,qi n,.string mod,.string name,.slice (some (qa w1.heap.size 0)) 1 1])) ((set5 w1 w.heap.size (qi op) (qi n) (.string mod) (.string name) (.slice (some (qa w1.heap.size 0)) 1 1)).alloc (kzE y.op y.n y.mod y.name a1 y.args.length c1)):=by
 refine ⟨(hk.set5 (vaa _) _ _ _ _ _).alloc _,Or.inr ⟨.mk op n mod name [y],l',_,hr,rfl,⟨_,_,rfl,AP,AG,?_⟩,(Dv.set5 h0 (vaa _) _ _ _ _ _).alloc _⟩⟩;refine zlk (t:=174) (cap:=c1) Di D0 hy ((((zad.refl w1 (lo<=·)).set5 (b:=w.heap.size) cT _ _ _ _ _).alloc _).to ae) ?_ ae;have e:=heap_newP (set5 w1 w.heap.size (qi op) (qi n) (.string mod) (.string name) (.slice (some (qa w1.heap.size 0)) 1 1)) (kzE y.op y.n y.mod y.name a1 y.args.length c1);simp only [vaq] at e;exact e
theorem zzz (R cap:Nat) (a:OA) (ts:List Tk) (f:Nat) (IH:ExC R cap a ts f) (l:List Tk) (w:World) (h:Rd R a cap ts w l) (hf:3*l.length+1<=f+1) :
 qc 283 #[pq R 0] w (zeg R a cap ts w (zbp (f+1) l) (zhd (w.heap.size<=·))):=by
 have HI:Hid (ExC R cap a ts f):=IH;have HR:Hid (Rd R a cap ts w l):=h;have CO:=h.lt;have Nw:=z43 (hd l).kind (hd l).n (hd l).text;clear IH h;go_enter Tryz.func283,Tryz.ntmps283;go_wp2_with fail;refine (zq8 R cap a ts l _ (HR.out.alloc _)).mono ?_;rintro e w1 ⟨rfl,A6⟩;have AY:Hid (Rd R a cap ts w1 l):=(HR.out.alloc _).later A6;have AL:Hid (Keeps R w w1):=((Keeps.refl R w).alloc _).later A6;have A8:Hid (w1.heap[w.heap.size]? = some zcl):=(A6.block w.heap.size aA).trans (heap_newP _ _);have Ao:=A6.size;simp at Ao;clear A6
 by_cases hk:(hd l).kind=2
 . have HP:Hid (zbp (f+1) l=some (.mk 1 (hd l).n ⟨#[]⟩ ⟨#[]⟩ [],l.tail)):=by show zbp (f+1) l=_;unfold zbp;rw [if_pos hk]
   have HQ:Hid (pNum l=some ((hd l).n,l.tail)):=by show pNum l=_;unfold pNum;rw [if_pos hk]
   have RT:=z43 2 (hd l).n (hd l).text;go_wp2_with fail;refine (zhw R cap a ts l w1 AY.out).mono ?_;rintro e w2 ⟨AN,⟨hn,rfl⟩ | ⟨n,l2,v,hn,rfl,rfl,An⟩⟩
   . rw [HQ.out] at hn;cases hn
   rw [HQ.out] at hn;obtain ⟨rfl,rfl⟩:=vap (vab hn);have Ad:Hid (w2.heap[w.heap.size]? = some zcl):=(AN.block w.heap.size ae ae).trans A8.out;obtain ⟨h0,h1,h2,h3,h4,h5⟩:=zaa Ad.out;have Ay:=AN.size
   have DD:w.heap.size<w2.heap.size:=ae
   have HF:Hid (zeg R a cap ts w (zbp (f+1) l) (zhd (w.heap.size<=·)) (.returned (.agg #[qi 1,qi (hd l).n,.string ⟨#[]⟩,.string ⟨#[]⟩,qs])) (set5 w2 w.heap.size (qi 1) (qi (hd l).n) (.string ⟨#[]⟩) (.string ⟨#[]⟩) (qs))):=
    znv (x:=.mk 1 (hd l).n ⟨#[]⟩ ⟨#[]⟩ []) HR.out HP.out (AL.out.trans AN) An (vaf _) (vaf _) (lo:=w2.heap.size) (Or.inl rfl) DD
   clear hn An AN;go_wp2_with fail;refine bodyPost_ret (v:=.agg #[qi 1,qi (hd l).n,.string ⟨#[]⟩,.string ⟨#[]⟩,qs]) bp rfl HF.out
 go_wp2_with fail
 by_cases AA:skB l tIn=true
 . refine (zbn R cap a ts l tIn w1 aq AY.out AA).mono ?_
   rintro e w2 ⟨rfl,An,AN⟩;have Ad:Hid (w2.heap[w.heap.size]? = some zcl):=(AN.block w.heap.size ae ae).trans A8.out;obtain ⟨h0,h1,h2,h3,h4,h5⟩:=zaa Ad.out;have Ay:=AN.size
   have DD:w.heap.size<w2.heap.size:=ae
   have HF:Hid (zeg R a cap ts w (zbp (f+1) l) (zhd (w.heap.size<=·)) (.returned (.agg #[qi 2,qi 0,.string ⟨#[]⟩,.string ⟨#[]⟩,qs])) (set5 w2 w.heap.size (qi 2) (qi 0) (.string ⟨#[]⟩) (.string ⟨#[]⟩) (qs))):=
    znv (x:=.mk 2 0 ⟨#[]⟩ ⟨#[]⟩ []) HR.out (by unfold zbp;rw [if_neg hk,if_pos AA]) (AL.out.trans AN) An (vaf _) (vaf _) (lo:=w2.heap.size) (Or.inl rfl) DD
   clear An AN;go_wp2_with fail;refine bodyPost_ret (v:=.agg #[qi 2,qi 0,.string ⟨#[]⟩,.string ⟨#[]⟩,qs]) bp rfl HF.out
 refine (zb7 R cap a ts l tIn w1 AY.out (by simpa using AA)).mono ?_;rintro e w2 ⟨rfl,An,AN⟩;have D7:Hid (Rd R a cap ts w2 l):=An;have BX:Hid (Keeps R w w2):=AL.out.trans AN;have Ad:Hid (w2.heap[w.heap.size]? = some zcl):=(AN.block w.heap.size ae ae).trans A8.out;have Ay:=AN.size;clear An AN AY AL A8;go_wp2_with fail
 by_cases Bq:skB l z8v=true
 . have CC:=zaj aq Bq
   refine (zbn R cap a ts l z8v w2 aq D7.out Bq).mono ?_;rintro e w3 ⟨rfl,Aq,Ak⟩;have BB:=Ak.size;have Af:Hid (w3.heap[w.heap.size]? = some zcl):=(Ak.block w.heap.size ae ae).trans Ad.out;go_wp2_with fail;refine (HI.out.expr l.tail w3 Aq ae).mono ?_;rintro e w4 ⟨Az,⟨hn,rfl⟩ | ⟨y,l4,v,hn,rfl,⟨a4,c4,rfl,Di,D0,DB⟩,AU⟩⟩
   . exact ⟨rfl,(BX.out.trans Ak).trans Az,Or.inl ⟨by unfold zbp;rw [if_neg hk,if_neg AA,if_pos Bq,hn],rfl⟩⟩
   have Ap:Hid (w4.heap[w.heap.size]? = some zcl):=(Az.block w.heap.size ae ae).trans Af.out;obtain ⟨h0,h1,h2,h3,h4,h5⟩:=zaa Ap.out;have Db:=Az.size
   have DD:w.heap.size<w4.heap.size:=ae
   have HF:Hid (zeg R a cap ts w (zbp (f+1) l) (zhd (w.heap.size<=·)) (.returned (.agg #[qi 6,qi 0,.string ⟨#[]⟩,.string ⟨#[]⟩,.slice (some (qa w4.heap.size 0)) 1 1])) ((set5 w4 w.heap.size (qi 6) (qi 0) (.string ⟨#[]⟩) (.string ⟨#[]⟩) (.slice (some (qa w4.heap.size 0)) 1 1)).alloc (kzE y.op y.n y.mod y.name a4 y.args.length c4))):=
    z6e HR.out (by unfold zbp;rw [if_neg hk,if_neg AA,if_pos Bq,hn]) ((BX.out.trans Ak).trans Az) AU (vaf _) (vaf _) Di D0 DB ae Db
   clear hn Aq AU Ak Az Di D0 DB;go_wp2_with fail;refine bodyPost_ret (v:=.agg #[qi 6,qi 0,.string ⟨#[]⟩,.string ⟨#[]⟩,.slice (some (qa w4.heap.size 0)) 1 1]) (by simp [results,Tryz.results283,go_sem,h0,h1,h2,h3,h4,DD]) rfl HF.out
 refine (zb7 R cap a ts l z8v w2 D7.out (by simpa using Bq)).mono ?_;rintro e w3 ⟨rfl,Aq,Ak⟩;have CP:Hid (Rd R a cap ts w3 l):=Aq;have Cc:Hid (Keeps R w w3):=BX.out.trans Ak;have Af:Hid (w3.heap[w.heap.size]? = some zcl):=(Ak.block w.heap.size ae ae).trans Ad.out;have BB:=Ak.size;clear Aq Ak D7 BX Ad;go_wp2_with fail
 by_cases CU:skB l tLp=true
 . have FV:=zaj aq CU
   refine (zbn R cap a ts l tLp w3 aq CP.out CU).mono ?_;rintro e w4 ⟨rfl,AU,Az⟩;have Db:=Az.size;have Ap:Hid (w4.heap[w.heap.size]? = some zcl):=(Az.block w.heap.size ae ae).trans Af.out;go_wp2_with fail;refine (HI.out.pair l.tail w4 AU ae).mono ?_;rintro e w5 ⟨Ax,⟨hn,rfl⟩ | ⟨y,l5,v,hn,rfl,⟨a5,c5,rfl,Di,D0,DB⟩,Bp⟩⟩
   . exact ⟨rfl,(Cc.out.trans Az).trans Ax,Or.inl ⟨dF,rfl⟩⟩
   have At:Hid (w5.heap[w.heap.size]? = some zcl):=(Ax.block w.heap.size ae ae).trans Ap.out;obtain ⟨h0,h1,h2,h3,h4,h5⟩:=zaa At.out;have Cf:=Ax.size
   have HF:Hid (zeg R a cap ts w (zbp (f+1) l) (zhd (w.heap.size<=·)) (.returned (.agg #[qi y.op,qi y.n,.string y.mod,.string y.name,.slice a5 y.args.length c5])) (set5 w5 w.heap.size (qi y.op) (qi y.n) (.string y.mod) (.string y.name) (.slice a5 y.args.length c5))):=
    znv (x:=y) HR.out dF ((Cc.out.trans Az).trans Ax) Bp Di D0 (lo:=w4.heap.size) DB ae
   clear hn AU Bp Az Ax Di D0 DB;go_wp2_with fail;refine bodyPost_ret (v:=.agg #[qi y.op,qi y.n,.string y.mod,.string y.name,.slice a5 y.args.length c5]) bp rfl HF.out
 refine (zb7 R cap a ts l tLp w3 CP.out (by simpa using CU)).mono ?_;rintro e w4 ⟨rfl,AU,Az⟩;have C8:Hid (Rd R a cap ts w4 l):=AU;have BR:Hid (Keeps R w w4):=Cc.out.trans Az;have Ap:Hid (w4.heap[w.heap.size]? = some zcl):=(Az.block w.heap.size ae ae).trans Af.out;have Db:=Az.size
 have Ok:Hid (zbp (f+1) l=match zx1 l with
  | none=>none
  | some ((m,n),l1)=>
    if skB l1 tLs then (match zbp f l1.tail with | none=>none | some (x,l2)=>if skB l2 tRs then some (.mk 4 0 m n [x],l2.tail) else none)
    else if skB l1 tLp then (match zex f l1.tail with | none=>none | some (xs,l2)=>some (.mk 5 0 m n xs,l2))
    else some (.mk 3 0 m n [],l1)):=by
  show zbp (f+1) l=_
  conv=>lhs;unfold zbp
  rw [if_neg hk,if_neg AA,if_neg Bq,if_neg CU]
  rfl
 clear AU Az CP Cc Af hk AA Bq CU;go_wp2_with fail;refine (zzt R cap a ts l _ (C8.out.alloc _)).mono ?_;rintro e w5 ⟨Ax,⟨hn,rfl⟩ | ⟨⟨m,n⟩,l5,v,hn,rfl,⟨rfl,hm,Dj⟩,Bp⟩⟩
 . exact ⟨rfl,(BR.out.alloc _).trans Ax,Or.inl ⟨by rw [Ok.out,hn],rfl⟩⟩
 have Gk:=ztq hn
 have Jt:Hid (zbp (f+1) l=if skB l5 tLs then (match zbp f l5.tail with | none=>none | some (x,l2)=>if skB l2 tRs then some (.mk 4 0 m n [x],l2.tail) else none)
  else if skB l5 tLp then (match zex f l5.tail with | none=>none | some (xs,l2)=>some (.mk 5 0 m n xs,l2))
  else some (.mk 3 0 m n [],l5)):=by
  show zbp (f+1) l=_;rw [Ok.out,hn]
 have DN:Hid (Rd R a cap ts w5 l5):=Bp;have CG:Hid (Keeps R w w5):=(BR.out.alloc _).trans Ax;have At:Hid (w5.heap[w.heap.size]? = some zcl):=(Ax.block w.heap.size aF ae).trans (zab Ap.out);have C5:Hid (w5.heap[w4.heap.size]? = some (.cells #[qi 3,qi 0,.string ⟨#[]⟩,.string ⟨#[]⟩,qs] 174 (0,0))):=(Ax.block w4.heap.size aA ae).trans (heap_newP _ _);have Cf:=Ax.size;simp at Cf;obtain ⟨h0,h1,h2,h3,h4,h5⟩:=zaa C5.out;clear hn Bp Ax Ok C8 Ap BR;have IL:Hid (Rd R a cap ts ((w5.setCell (qa w4.heap.size 2) (.string m)).setCell (qa w4.heap.size 3) (.string n)) l5):=(DN.out.setAbove HR.out bh _).setAbove HR.out bh _;have F1:Hid (Keeps R w ((w5.setCell (qa w4.heap.size 2) (.string m)).setCell (qa w4.heap.size 3) (.string n))):=(CG.out.set bh _).set bh _
 have Co:Hid (((w5.setCell (qa w4.heap.size 2) (.string m)).setCell (qa w4.heap.size 3) (.string n)).heap[w.heap.size]? = some zcl):=(heap_set_ne bV _).trans ((heap_set_ne bV _).trans At.out);have J2:Hid (((w5.setCell (qa w4.heap.size 2) (.string m)).setCell (qa w4.heap.size 3) (.string n)).heap[w4.heap.size]? = some (.cells #[qi 3,qi 0,.string m,.string n,qs] 174 (0,0))):=heap_set (heap_set C5.out _) _
 have Hw:((w5.setCell (qa w4.heap.size 2) (.string m)).setCell (qa w4.heap.size 3) (.string n)).heap.size=w5.heap.size:=bx
 clear DN CG At;go_wp2_with fail;generalize (w5.setCell (qa w4.heap.size 2) (.string m)).setCell (qa w4.heap.size 3) (.string n)=w6 at *;clear h0 h1 h2 h3 h4 h5 C5
 by_cases Ga:skB l5 tLs=true
 . have PA:=zaj aq Ga
   refine (zbn R cap a ts l5 tLs w6 aq IL.out Ga).mono ?_;rintro e w7 ⟨rfl,HR7,CS⟩;have Ja:=CS.size;have BF:Hid (w7.heap[w.heap.size]? = some zcl):=(CS.block w.heap.size ae ae).trans Co.out;have G2:Hid (w7.heap[w4.heap.size]? = some (.cells #[qi 3,qi 0,.string m,.string n,qs] 174 (0,0))):=(CS.block w4.heap.size ae ae).trans J2.out;obtain ⟨h0,h1,h2,h3,h4,h5⟩:=zaa G2.out;have Cu:Hid (Rd R a cap ts (w7.setCell (qa w4.heap.size 0) (qi 4)) l5.tail):=HR7.setAbove HR.out bh _;have AO:Hid (Keeps R w (w7.setCell (qa w4.heap.size 0) (qi 4))):=(F1.out.trans CS).set bh _;have Bb:Hid ((w7.setCell (qa w4.heap.size 0) (qi 4)).heap[w.heap.size]? = some zcl):=(heap_set_ne bV _).trans BF.out
   have Dt:Hid ((w7.setCell (qa w4.heap.size 0) (qi 4)).heap[w4.heap.size]? = some (.cells #[qi 4,qi 0,.string m,.string n,qs] 174 (0,0))):=heap_set G2.out _
   have DA:(w7.setCell (qa w4.heap.size 0) (qi 4)).heap.size=w7.heap.size:=bx
   clear HR7 CS BF IL F1 Co J2;go_wp2_with fail;generalize w7.setCell (qa w4.heap.size 0) (qi 4)=w8 at *;clear h0 h1 h2 h3 h4 h5 G2;refine (HI.out.expr l5.tail w8 Cu.out ae).mono ?_;rintro e w9 ⟨GK,⟨hn,rfl⟩ | ⟨y,l9,v,hn,rfl,⟨a9,c9,rfl,Di,D0,DB⟩,Md⟩⟩
   . exact ⟨rfl,AO.out.trans GK,Or.inl ⟨by rw [Jt.out,if_pos Ga,hn],rfl⟩⟩
   have EQ:=GK.size;have B7:Hid (w9.heap[w.heap.size]? = some zcl):=(GK.block w.heap.size ae ae).trans Bb.out;have JF:Hid (w9.heap[w4.heap.size]? = some (.cells #[qi 4,qi 0,.string m,.string n,qs] 174 (0,0))):=(GK.block w4.heap.size ae ae).trans Dt.out;obtain ⟨h0,h1,h2,h3,h4,h5⟩:=zaa JF.out
   have MQ:w4.heap.size<w9.heap.size:=ae
   have Jv:Hid (zbp f l5.tail=some (y,l9)):=hn
   have IB:Hid (y.mod.size<=maxLen/\y.name.size<=maxLen/\EAt w9 (w8.heap.size<=·) a9 y.args.length (zbr y.args)):=⟨Di,D0,DB⟩
   have Of:Hid (Rd R a cap ts w9 l9):=Md;have Lh:Hid (Keeps R w w9):=AO.out.trans GK;clear hn Md GK Di D0 DB Bb Dt Cu AO;go_wp2_with fail;refine (zfy R cap _ a ts l9 tRs _ aA ((Of.out.setAbove HR.out bh _).alloc _) aq).mono ?_;rintro e Dz ⟨BT,⟨GT,rfl⟩ | ⟨GT,rfl,HR10⟩⟩
   . exact ⟨rfl,((Lh.out.set bh _).alloc _).trans BT,Or.inl ⟨by rw [Jt.out,if_pos Ga,Jv.out];simp [GT],rfl⟩⟩
   have HP:Hid (zbp (f+1) l=some (.mk 4 0 m n [y],l9.tail)):=by show zbp (f+1) l=_;rw [Jt.out,if_pos Ga,Jv.out];simp [GT]
   have G8:=BT.size;simp at G8;have FM:Hid (Dz.heap[w.heap.size]? = some zcl):=(BT.block w.heap.size aF ae).trans (zab ((heap_set_ne bV _).trans B7.out));have J3:Hid (Dz.heap[w4.heap.size]? = some (.cells #[qi 4,qi 0,.string m,.string n,.slice (some (qa w9.heap.size 0)) 1 1] 174 (0,0))):=(BT.block w4.heap.size aF ae).trans (zab (heap_set JF.out _))
   have OL:Hid (Dz.heap[w9.heap.size]? = some (.cells #[qi y.op,qi y.n,.string y.mod,.string y.name,.slice a9 y.args.length c9] 174 (0,0))):=(BT.block w9.heap.size aA ae).trans (by
    have e:=heap_newP (w9.setCell (qa w4.heap.size 4) (.slice (some (qa w9.heap.size 0)) 1 1)) (kzE y.op y.n y.mod y.name a9 y.args.length c9);simp only [vaq] at e
    exact e)
   have L5:zad w9 (w8.heap.size<=·) Dz (w8.heap.size<=·):=(((zad.refl w9 _).set (by intro b _ hb;show b≠w4.heap.size;omega) _).alloc _).keeps BT cT
   have HF:Hid (zeg R a cap ts w (zbp (f+1) l) (zhd (w.heap.size<=·)) (.returned (.agg #[qi 4,qi 0,.string m,.string n,.slice (some (qa w9.heap.size 0)) 1 1])) (set5 Dz w.heap.size (qi 4) (qi 0) (.string m) (.string n) (.slice (some (qa w9.heap.size 0)) 1 1))):=
    znv (x:=.mk 4 0 m n [y]) HR.out HP.out (((Lh.out.set bh _).alloc _).trans BT) HR10 hm Dj (lo:=w8.heap.size) (zlk IB.out.1 IB.out.2.1 IB.out.2.2 L5 OL.out ae) ae
   obtain ⟨h0,h1,h2,h3,h4,h5⟩:=zaa FM.out;obtain ⟨g0,g1,g2,g3,g4,g5⟩:=zaa J3.out;clear BT HR10 L5;go_wp2_with fail;refine bodyPost_ret (v:=.agg #[qi 4,qi 0,.string m,.string n,.slice (some (qa w9.heap.size 0)) 1 1]) bp rfl HF.out
 refine (zb7 R cap a ts l5 tLs w6 IL.out (by simpa using Ga)).mono ?_;rintro e w7 ⟨rfl,HR7,CS⟩;have Ja:=CS.size;have DM:Hid (Rd R a cap ts w7 l5):=HR7;have DR:Hid (Keeps R w w7):=F1.out.trans CS;have BF:Hid (w7.heap[w.heap.size]? = some zcl):=(CS.block w.heap.size ae ae).trans Co.out;have G2:Hid (w7.heap[w4.heap.size]? = some (.cells #[qi 3,qi 0,.string m,.string n,qs] 174 (0,0))):=(CS.block w4.heap.size ae ae).trans J2.out;clear HR7 CS IL F1 Co J2;go_wp2_with fail
 by_cases Jb:skB l5 tLp=true
 . have RF:=zaj aq Jb
   refine (zbn R cap a ts l5 tLp w7 aq DM.out Jb).mono ?_;rintro e w8 ⟨rfl,Cu,AO⟩;have DA:=AO.size;have Bb:Hid (w8.heap[w.heap.size]? = some zcl):=(AO.block w.heap.size ae ae).trans BF.out;have Dt:Hid (w8.heap[w4.heap.size]? = some (.cells #[qi 3,qi 0,.string m,.string n,qs] 174 (0,0))):=(AO.block w4.heap.size ae ae).trans G2.out;obtain ⟨h0,h1,h2,h3,h4,h5⟩:=zaa Dt.out;have Md:Hid (Rd R a cap ts (w8.setCell (qa w4.heap.size 0) (qi 5)) l5.tail):=Cu.setAbove HR.out bh _;have GK:Hid (Keeps R w (w8.setCell (qa w4.heap.size 0) (qi 5))):=(DR.out.trans AO).set bh _;have B7:Hid ((w8.setCell (qa w4.heap.size 0) (qi 5)).heap[w.heap.size]? = some zcl):=(heap_set_ne bV _).trans Bb.out
   have JF:Hid ((w8.setCell (qa w4.heap.size 0) (qi 5)).heap[w4.heap.size]? = some (.cells #[qi 5,qi 0,.string m,.string n,qs] 174 (0,0))):=heap_set Dt.out _
   have EQ:(w8.setCell (qa w4.heap.size 0) (qi 5)).heap.size=w8.heap.size:=bx
   clear Cu AO Bb DM DR BF G2;go_wp2_with fail;generalize w8.setCell (qa w4.heap.size 0) (qi 5)=w9 at *;clear h0 h1 h2 h3 h4 h5 Dt;refine (HI.out.args l5.tail w9 Md.out ae).mono ?_;rintro e Dz ⟨BT,⟨hn,rfl⟩ | ⟨xs,l10,v,hn,rfl,⟨a10,c10,rfl,hx10⟩,HR10⟩⟩
   . exact ⟨rfl,GK.out.trans BT,Or.inl ⟨by rw [Jt.out,if_neg Ga,if_pos Jb,hn],rfl⟩⟩
   have G8:=BT.size
   have HP:Hid (zbp (f+1) l=some (.mk 5 0 m n xs,l10)):=by show zbp (f+1) l=_;rw [Jt.out,if_neg Ga,if_pos Jb,hn]
   have FM:Hid (Dz.heap[w.heap.size]? = some zcl):=(BT.block w.heap.size ae ae).trans B7.out;have J3:Hid (Dz.heap[w4.heap.size]? = some (.cells #[qi 5,qi 0,.string m,.string n,qs] 174 (0,0))):=(BT.block w4.heap.size ae ae).trans JF.out
   have HF:Hid (zeg R a cap ts w (zbp (f+1) l) (zhd (w.heap.size<=·)) (.returned (.agg #[qi 5,qi 0,.string m,.string n,.slice a10 xs.length c10])) (set5 (Dz.setCell (qa w4.heap.size 4) (.slice a10 xs.length c10)) w.heap.size (qi 5) (qi 0) (.string m) (.string n) (.slice a10 xs.length c10))):=
    znv (x:=.mk 5 0 m n xs) HR.out HP.out ((GK.out.trans BT).set bh _) (HR10.setAbove HR.out bh _) hm Dj (lo:=w9.heap.size) (hx10.moves ((zad.refl Dz _).set (by intro b _ hb;show b≠w4.heap.size;omega) _)) ae
   obtain ⟨h0,h1,h2,h3,h4,h5⟩:=zaa FM.out;obtain ⟨g0,g1,g2,g3,g4,g5⟩:=zaa J3.out
   have Ai:w.heap.size≠w4.heap.size:=ae
   clear BT HR10 hn;go_wp2_with fail;refine bodyPost_ret (v:=.agg #[qi 5,qi 0,.string m,.string n,.slice a10 xs.length c10]) bp rfl HF.out
 refine (zb7 R cap a ts l5 tLp w7 DM.out (by simpa using Jb)).mono ?_;rintro e w8 ⟨rfl,Cu,AO⟩;have DA:=AO.size;have Bb:Hid (w8.heap[w.heap.size]? = some zcl):=(AO.block w.heap.size ae ae).trans BF.out;have Dt:Hid (w8.heap[w4.heap.size]? = some (.cells #[qi 3,qi 0,.string m,.string n,qs] 174 (0,0))):=(AO.block w4.heap.size ae ae).trans G2.out
 have HF:Hid (zeg R a cap ts w (zbp (f+1) l) (zhd (w.heap.size<=·)) (.returned (.agg #[qi 3,qi 0,.string m,.string n,qs])) (set5 w8 w.heap.size (qi 3) (qi 0) (.string m) (.string n) (qs))):=
  znv (x:=.mk 3 0 m n []) HR.out (by rw [Jt.out,if_neg Ga,if_neg Jb]) (DR.out.trans AO) Cu hm Dj (lo:=w8.heap.size) (Or.inl rfl) ae
 obtain ⟨h0,h1,h2,h3,h4,h5⟩:=zaa Bb.out;obtain ⟨g0,g1,g2,g3,g4,g5⟩:=zaa Dt.out;clear AO Cu;go_wp2_with fail;refine bodyPost_ret (v:=.agg #[qi 3,qi 0,.string m,.string n,qs]) bp rfl HF.out
theorem z44 (R cap:Nat) (a:OA) (ts:List Tk):∀ f,ExC R cap a ts f:=by
 intro f
 induction f using Nat.strongRecOn with
 | ind f ih=>
   cases f with
   | zero=>exact ⟨fun _ _ _ h=>ae,fun _ _ _ h=>ae,fun _ _ _ h=>ae⟩
   | succ f=>
     exact ⟨fun l w h hf=>zzz R cap a ts f (ih f ae) l w h hf,fun l w h hf=>zzx R cap a ts f (ih f ae) l w h hf,fun l w h hf=>zzy R cap a ts f (fun g hg=>ih g ae) l w h hf⟩
theorem ze6 (R cap:Nat) (a:OA) (ts l:List Tk) (w:World) (h:Rd R a cap ts w l) :
 qc 283 #[pq R 0] w (zeg R a cap ts w (pX l) (zhd (w.heap.size<=·))):=(z44 R cap a ts _).expr l w h ae
theorem z2w (R cap:Nat) (a:OA) (ts l:List Tk) (w:World) (h:Rd R a cap ts w l) :
 qc 295 #[pq R 0] w (zeg R a cap ts w (pAs l) (z92 (w.heap.size<=·))):=(z44 R cap a ts _).args l w h ae
end Go.Proofs.YtndkhgakfodldaaGreatDoor

namespace Go.Proofs.YtndkhgakfodldaaGreatDoor
set_option maxRecDepth 100000
set_option maxHeartbeats 3200000
open Go.RowKit Go.Shelf
section
variable {P:Program} {ops:Array Oper} {o:Oper} {a:Act} {w:World} {K:Act->World->Prop} {Q:Exit->Act->World->Prop} {E:Prop}
theorem znw (f:FuncId) (x:Operand) (ty:TypeId) (ho:o.op = .call { callee:=.value (.func f),args:=#[x],argTypes:=#[ty] })
 (Ci:Enters P f) (v:Value) (hx:a.eval x=v):(execOp a.eval o).run P w = .ok (.enter f #[v]) w:=by
 have h:=Ci #[v] w;exact gL
theorem zce (BK:o.guard=none) (f:FuncId) (x:Operand) (ty:TypeId) (ho:o.op = .call { callee:=.value (.func f),args:=#[x],argTypes:=#[ty] })
 (Ci:Enters P f) (v:Value) (hx:a.eval x=v) {R:Value->World->Prop} (hC:Calls P f #[v] w fun e w'=>∃ u,e = .returned u/\R u w')
 (h:∀ u w',R u w'->K (a.put o.dst u) w'):if Region.wanted o (yielded ops a.tmps)=true then Oper.wp P o a w K Q else E:=by
 have hw:Region.wanted o (yielded ops a.tmps)=true:=bK
 rw [if_pos hw];unfold Oper.wp;rw [znw f x ty ho Ci v hx,vdu];refine hC.mono ?_;rintro e w' ⟨u,rfl,hR⟩;exact h u w' hR
theorem zbh (BK:o.guard=none) (f:FuncId) (x:Operand) (ty:TypeId) (ho:o.op = .call { callee:=.value (.func f),args:=#[x],argTypes:=#[ty] })
 (Ci:Enters P f) (v:Value) (hx:a.eval x=v) (c:List PanicEntry) {R:World->Prop} (hC:Calls P f #[v] w fun e w'=>e = .panicked c/\R w')
 (h:∀ w',R w'->Q (.panic c) a w'):if Region.wanted o (yielded ops a.tmps)=true then Oper.wp P o a w K Q else E:=by
 have hw:Region.wanted o (yielded ops a.tmps)=true:=bK
 rw [if_pos hw];unfold Oper.wp;rw [znw f x ty ho Ci v hx,vdu];refine hC.mono ?_;rintro e w' ⟨rfl,hR⟩;exact h w' hR
end
def zgp (A:Nat->Prop) (s:St) (w:World) (v:Value):Prop:=∃ a1 c1 a2 c2 a3 c3,v = .agg #[qi s.op,.string s.mod,.string s.name,.slice a1 s.args.length c1,.slice a2 s.body.length c2,.slice a3 s.other.length c3]/\s.mod.size<=maxLen/\s.name.size<=maxLen/\
 EAt w A a1 s.args.length (zbr s.args)/\EAt w A a2 s.body.length (zbs s.body)/\EAt w A a3 s.other.length (zbs s.other)
def z93 (A:Nat->Prop) (xs:List St) (w:World) (v:Value):Prop:=∃ a cap,v = .slice a xs.length cap/\EAt w A a xs.length (zbs xs)
def zz0 (s:St) (a1:OA) (c1:Nat) (a2:OA) (c2:Nat) (a3:OA) (c3:Nat):List Value:=[qi s.op,.string s.mod,.string s.name,.slice a1 s.args.length c1,.slice a2 s.body.length c2,.slice a3 s.other.length c3]
theorem z2x {A:Nat->Prop} {s:St} {w:World} {a1 a2 a3:OA} {c1 c2 c3:Nat} (h1:s.mod.size<=maxLen) (h2:s.name.size<=maxLen) (h3:EAt w A a1 s.args.length (zbr s.args)) (h4:EAt w A a2 s.body.length (zbs s.body)) (h5:EAt w A a3 s.other.length (zbs s.other)):zav w A s.ds (zz0 s a1 c1 a2 c2 a3 c3):=by
 cases s
 unfold St.ds;exact .cons zqh (.cons (zx0 h1) (.cons (zx0 h2) (.cons h3.val (.cons h4.val (.cons h5.val .nil)))))
abbrev za2:Obj:=.cells #[qi 0,.string ⟨#[]⟩,.string ⟨#[]⟩,qs,qs,qs] 176 (0,0)
theorem st_end {R cap:Nat} {a:OA} {ts l l':List Tk} {w w1:World} {r:Option (St × List Tk)} {s:St} {a1 a2 a3:OA} {c1 c2 c3:Nat} (h0:Rd R a cap ts w l) (hr:r=some (s,l')) (hk:Keeps R w w1) (Dv:Rd R a cap ts w1 l')
 (AP:s.mod.size<=maxLen) (AG:s.name.size<=maxLen) {lo:Nat} (h1:EAt w1 (lo<=·) a1 s.args.length (zbr s.args)) (h2:EAt w1 (lo<=·) a2 s.body.length (zbs s.body)) (h3:EAt w1 (lo<=·) a3 s.other.length (zbs s.other)) (D4:w.heap.size<lo) :
 zeg R a cap ts w r (zgp (w.heap.size<=·)) (.returned (.agg #[qi s.op,.string s.mod,.string s.name,.slice a1 s.args.length c1,.slice a2 s.body.length c2,.slice a3 s.other.length c3])) (set6 w1 w.heap.size (qi s.op) (.string s.mod) (.string s.name) (.slice a1 s.args.length c1) (.slice a2 s.body.length c2) (.slice a3 s.other.length c3)):=by
 have hm:zad w1 (lo<=·) (set6 w1 w.heap.size (qi s.op) (.string s.mod) (.string s.name) (.slice a1 s.args.length c1) (.slice a2 s.body.length c2) (.slice a3 s.other.length c3)) (w.heap.size<=·):=((zad.refl w1 (lo<=·)).set6 cT _ _ _ _ _ _).to ae;exact ⟨hk.set6 (vaa _) _ _ _ _ _ _,Or.inr ⟨s,l',_,hr,rfl,⟨a1,c1,a2,c2,a3,c3,rfl,AP,AG,h1.moves hm,h2.moves hm,h3.moves hm⟩,Dv.set6 h0 (vaa _) _ _ _ _ _ _⟩⟩
theorem zll (R cap:Nat) (a:OA) (ts l:List Tk) (w:World) (h:Rd R a cap ts w l) (op:Int) (mod name:ByteArray) (a1 a2 a3:OA) (n1 n2 n3 c1 c2 c3:Nat) :
 qc 284 #[pq R 0,.agg #[qi op,.string mod,.string name,.slice a1 n1 c1,.slice a2 n2 c2,.slice a3 n3 c3]] w fun e w'=>Keeps R w w'/\
  ((skB l zir=false/\e = .panicked zai)\/(skB l zir=true/\e = .returned (.agg #[qi op,.string mod,.string name,.slice a1 n1 c1,.slice a2 n2 c2,.slice a3 n3 c3])/\Rd R a cap ts w' l.tail)):=by
 have HR:Hid (Rd R a cap ts w l):=h;have CO:=h.lt;clear h;go_enter Tryz.func284,Tryz.ntmps284;go_wp2_with fail;refine (zfy R cap _ a ts l zir _ aA ((HR.out.alloc _).alloc _) aq).mono ?_;rintro e w1 ⟨AL,⟨hs,rfl⟩ | ⟨hs,rfl,AY⟩⟩
 . exact ⟨rfl,(((Keeps.refl R w).alloc _).alloc _).trans AL,Or.inl ⟨hs,rfl⟩⟩
 have Ao:=AL.size;simp at Ao;have A8:Hid (w1.heap[w.heap.size]? = some (.cells #[qi op,.string mod,.string name,.slice a1 n1 c1,.slice a2 n2 c2,.slice a3 n3 c3] 176 (0,0))):=(AL.block w.heap.size aF ae).trans (zab (heap_newP _ _));have Ht:Hid (w1.heap[w.heap.size+1]? = some za2):=(AL.block (w.heap.size+1) aA ae).trans (by have e:=heap_newP (w.alloc (kzB op mod name a1 n1 c1 a2 n2 c2 a3 n3 c3)) za2;simpa using e);have B3:Hid (Keeps R w w1):=(((Keeps.refl R w).alloc _).alloc _).trans AL;have BP:Hid (Rd R a cap ts w1 l.tail):=AY;obtain ⟨f0,f1,f2,f3,f4,f5,f6⟩:=zao A8.out;obtain ⟨g0,g1,g2,g3,g4,g5,g6⟩:=zao Ht.out;clear AL AY;go_wp2_with fail;refine bodyPost_ret (v:=.agg #[qi op,.string mod,.string name,.slice a1 n1 c1,.slice a2 n2 c2,.slice a3 n3 c3]) (by simp [results,Tryz.results284,go_sem,g0,g1,g2,g3,g4,g5]) rfl ⟨B3.out.set6 ae _ _ _ _ _ _,Or.inr ⟨hs,rfl,BP.out.set6 HR.out ae _ _ _ _ _ _⟩⟩
theorem znx {R cap:Nat} {a:OA} {ts l':List Tk} {w w':World} {r:Option (St × List Tk)} {s:St} {a1 a2 a3:OA} {c1 c2 c3:Nat} (hr:r=some (s,l')) (hk:Keeps R w w') (Dv:Rd R a cap ts w' l')
 (AP:s.mod.size<=maxLen) (AG:s.name.size<=maxLen) (h1:EAt w' (w.heap.size<=·) a1 s.args.length (zbr s.args)) (h2:EAt w' (w.heap.size<=·) a2 s.body.length (zbs s.body)) (h3:EAt w' (w.heap.size<=·) a3 s.other.length (zbs s.other)) :
 zeg R a cap ts w r (zgp (w.heap.size<=·)) (.returned (.agg #[qi s.op,.string s.mod,.string s.name,.slice a1 s.args.length c1,.slice a2 s.body.length c2,.slice a3 s.other.length c3])) w':=
 ⟨hk,Or.inr ⟨s,l',_,hr,rfl,⟨a1,c1,a2,c2,a3,c3,rfl,AP,AG,h1,h2,h3⟩,Dv⟩⟩
theorem z8h (l:List Tk) (t u v:ByteArray):zke l [t,u,v]=if skB l t then some t else if skB l u then some u else if skB l v then some v else none:=by
 unfold zke;rw [vcu,vcu,vcu];cases skB l t<;>cases skB l u<;>cases skB l v<;>rfl
theorem z8i (R cap n:Nat) (a:OA) (ts l:List Tk) (t u v:ByteArray) (w:World) (hn:n=w.heap.size) (h:Rd R a cap ts w l) (ht:0<t.size) (hu:0<u.size) (hv:0<v.size) :
 qc 195 #[pq R 0,.slice (some (qa n 0)) 3 3] (w.alloc (.cells #[.string t,.string u,.string v] 9)) fun e w'=>Keeps R w w'/\((skB l t=false/\skB l u=false/\skB l v=false/\e = .panicked zai)\/(skB l t=true/\e = .returned (.string t)/\Rd R a cap ts w' l.tail)\/(skB l t=false/\skB l u=true/\e = .returned (.string u)/\Rd R a cap ts w' l.tail)\/(skB l t=false/\skB l u=false/\skB l v=true/\e = .returned (.string v)/\Rd R a cap ts w' l.tail)):=by
 have A0:=h.lt;subst hn;refine (zks R cap w.heap.size 3 a ts l [t,u,v] _ (h.alloc _) aA ae aA (fun i hi=>?_) (fun i hi=>?_)).mono ?_
 . obtain rfl | rfl | rfl:i=0\/i=1\/i=2:=by simp at hi;omega
   all_goals simp
 . obtain rfl | rfl | rfl:i=0\/i=1\/i=2:=by simp at hi;omega
   . exact ht
   . exact hu
   . exact hv
 . rintro e w' ⟨hk,hr⟩
   refine ⟨((Keeps.refl R w).alloc _).trans hk,?_⟩;rw [z8h] at hr
   have Cp:∀ x:ByteArray,((some x).map fun t=>(t,l.tail))=some (x,l.tail):=fun _=>rfl
   cases hs:skB l t<;>cases AA:skB l u<;>cases Bq:skB l v<;>rw [hs,AA,Bq] at hr<;>simp only [vcx,if_false,if_true,Option.map_none,Option.map_some] at hr
   . rcases hr with ⟨_,rfl⟩ | ⟨x,l',y,hr,_⟩
     . exact Or.inl ⟨rfl,rfl,rfl,rfl⟩
     . cases hr
   all_goals
    rcases hr with ⟨hr,_⟩ | ⟨x,l',y,hr,rfl,rfl,hR⟩
    . cases hr
    . obtain ⟨rfl,rfl⟩:=vap (vab hr)
      simp [hR]
theorem z6f {R cap:Nat} {a:OA} {ts l l8:List Tk} {w w8 w9:World} {r:Option (St × List Tk)} {x y:Ex} {m n:ByteArray} {g9 c9:Nat} (h0:Rd R a cap ts w l) (hr:r=some (.mk 2 m n [x,y] [] [],l8)) (AO:Keeps R w w8) (Cu:Rd R a cap ts w8 l8)
 (hm:m.size<=maxLen) (Dj:n.size<=maxLen) (B7:Below (w.heap.size+2) w8 w9) (DP:Row (w.heap.size+2) 174 5 w9 (.slice (some (qa g9 0)) 2 c9) 2 (x.ds++y.ds)) :
 zeg R a cap ts w r (zgp (w.heap.size<=·)) (.returned (.agg #[qi 2,.string m,.string n,.slice (some (qa g9 0)) 2 c9,qs,qs])) (set6 (w9.setCell ⟨w.heap.size+1,3,none⟩ (.slice (some (qa g9 0)) 2 c9)) w.heap.size (qi 2) (.string m) (.string n) (.slice (some (qa g9 0)) 2 c9) (qs) (qs)):=by
 have Ph:Below w.heap.size w8 w9:=B7.mono ae
 have hd:zbr [x,y]=x.ds++y.ds:=by simp [zbr]
 obtain ⟨a',c',hv,AH⟩:=DP.slice
 injection hv with hv1 hv2 hv3
 rw [← hv1,← hd] at AH;have ND:=AH.moves ((((zad.refl w9 (w.heap.size+2<=·)).set (p:=⟨w.heap.size+1,3,none⟩) cq (.slice (some (qa g9 0)) 2 c9)).set6 (b:=w.heap.size) cT (qi 2) (.string m) (.string n) (.slice (some (qa g9 0)) 2 c9) (qs) (qs)).to (lo':=w.heap.size) ae)
 have PD:=(((AO.belowOf Ph).set (p:=⟨w.heap.size+1,3,none⟩) bI (.slice (some (qa g9 0)) 2 c9)).set6 (b:=w.heap.size) (vaa _) (qi 2) (.string m) (.string n) (.slice (some (qa g9 0)) 2 c9) (qs) (qs))
 have Rg:=((Cu.belowOf h0 Ph).setAbove h0 (p:=⟨w.heap.size+1,3,none⟩) bI (.slice (some (qa g9 0)) 2 c9)).set6 h0 (b:=w.heap.size) (vaa _) (qi 2) (.string m) (.string n) (.slice (some (qa g9 0)) 2 c9) (qs) (qs);exact znx (s:=.mk 2 m n [x,y] [] []) hr PD Rg hm Dj ND (Or.inl rfl) (Or.inl rfl)
theorem z6g:Enters Tryz.prog 283:=enters_of Tryz.func283 ah rfl
theorem zz1 (R cap:Nat) (a:OA) (ts l:List Tk) (w:World) (h:Rd R a cap ts w l) :
 qc 285 #[pq R 0] w (zeg R a cap ts w (zbx l) (zgp (w.heap.size<=·))):=by
 have HR:Hid (Rd R a cap ts w l):=h;have CO:=h.lt;clear h;go_enter Tryz.func285,Tryz.ntmps285;go_wp2_with fail;refine (zzt R cap a ts l _ ((HR.out.alloc _).alloc _)).mono ?_;rintro e w1 ⟨AL,⟨hn,rfl⟩ | ⟨⟨m,n⟩,l1,v,hn,rfl,⟨rfl,hm,Dj⟩,AY⟩⟩
 . exact ⟨rfl,(((Keeps.refl R w).alloc _).alloc _).trans AL,Or.inl ⟨by unfold zbx;rw [hn],rfl⟩⟩
 have Ao:=AL.size;simp at Ao
 have Bh:Hid (zbx l=if skB l1 tEq then (match pX l1.tail with | none=>none | some (x,l2)=>some (.mk 1 m n [x] [] [],l2))
  else if skB l1 tLs then (match pX l1.tail with
   | none=>none
   | some (x,l2)=>if skB l2 tRs then (if skB l2.tail tEq then (match pX l2.tail.tail with | none=>none | some (y,l3)=>some (.mk 2 m n [x,y] [] [],l3)) else none) else none)
  else if skB l1 tLp then (match pAs l1.tail with | none=>none | some (xs,l2)=>some (.mk 3 m n xs [] [],l2))
  else none):=by show zbx l=_;unfold zbx;rw [hn];rfl
 have B3:Hid (Keeps R w w1):=(((Keeps.refl R w).alloc _).alloc _).trans AL;have A8:Hid (w1.heap[w.heap.size]? = some za2):=(AL.block w.heap.size aF ae).trans (zab (heap_newP _ _));have Ht:Hid (w1.heap[w.heap.size+1]? = some za2):=(AL.block (w.heap.size+1) aA ae).trans (by have e:=heap_newP (w.alloc za2) za2;simpa using e);obtain ⟨h0,h1,h2,h3,h4,h5,h6⟩:=zao Ht.out;have An:Hid (Rd R a cap ts ((w1.setCell ⟨w.heap.size+1,1,none⟩ (.string m)).setCell ⟨w.heap.size+1,2,none⟩ (.string n)) l1):=(AY.setAbove HR.out aT _).setAbove HR.out aT _;have AN:Hid (Keeps R w ((w1.setCell ⟨w.heap.size+1,1,none⟩ (.string m)).setCell ⟨w.heap.size+1,2,none⟩ (.string n))):=(B3.out.set aT _).set aT _
 have Ad:Hid (((w1.setCell ⟨w.heap.size+1,1,none⟩ (.string m)).setCell ⟨w.heap.size+1,2,none⟩ (.string n)).heap[w.heap.size]? = some za2):=(heap_set_ne bq _).trans ((heap_set_ne bq _).trans A8.out);have Bl:Hid (((w1.setCell ⟨w.heap.size+1,1,none⟩ (.string m)).setCell ⟨w.heap.size+1,2,none⟩ (.string n)).heap[w.heap.size+1]? = some (.cells #[qi 0,.string m,.string n,qs,qs,qs] 176 (0,0))):=heap_set (heap_set Ht.out _) _
 have Ay:((w1.setCell ⟨w.heap.size+1,1,none⟩ (.string m)).setCell ⟨w.heap.size+1,2,none⟩ (.string n)).heap.size=w1.heap.size:=bx
 have DC:w.heap.size+1<w1.heap.size:=ae
 clear hn AY AL A8 B3;go_wp2_with fail;generalize (w1.setCell ⟨w.heap.size+1,1,none⟩ (.string m)).setCell ⟨w.heap.size+1,2,none⟩ (.string n)=w2 at *;clear h0 h1 h2 h3 h4 h5 h6 Ht;refine (z8i R cap _ a ts l1 tEq tLs tLp w2 ae An.out aq aq aq).mono ?_;rintro e w3 ⟨Ak,⟨s1,s2,s3,rfl⟩ | ⟨s1,rfl,Aq⟩ | ⟨s1,s2,rfl,Aq⟩ | ⟨s1,s2,s3,rfl,Aq⟩⟩
 . exact ⟨rfl,AN.out.trans Ak,Or.inl ⟨by rw [Bh.out,s1,s2,s3];rfl,rfl⟩⟩
 . have BB:=Ak.size
   have Af:Hid (w3.heap[w.heap.size]? = some za2):=(Ak.block w.heap.size ae ae).trans Ad.out;have BM:Hid (w3.heap[w.heap.size+1]? = some (.cells #[qi 0,.string m,.string n,qs,qs,qs] 176 (0,0))):=(Ak.block (w.heap.size+1) ae ae).trans Bl.out;obtain ⟨h0,h1,h2,h3,h4,h5,h6⟩:=zao BM.out;have AU:Hid (Rd R a cap ts (w3.setCell ⟨w.heap.size+1,0,none⟩ (qi 1)) l1.tail):=Aq.setAbove HR.out aT _;have Az:Hid (Keeps R w (w3.setCell ⟨w.heap.size+1,0,none⟩ (qi 1))):=(AN.out.trans Ak).set aT _;have Ap:Hid ((w3.setCell ⟨w.heap.size+1,0,none⟩ (qi 1)).heap[w.heap.size]? = some za2):=(heap_set_ne bq _).trans Af.out;have Df:Hid ((w3.setCell ⟨w.heap.size+1,0,none⟩ (qi 1)).heap[w.heap.size+1]? = some (.cells #[qi 1,.string m,.string n,qs,qs,qs] 176 (0,0))):=heap_set BM.out _
   have Db:(w3.setCell ⟨w.heap.size+1,0,none⟩ (qi 1)).heap.size=w3.heap.size:=bx
   clear Aq Ak Af An AN Ad Bl;go_wp2_with fail;generalize w3.setCell ⟨w.heap.size+1,0,none⟩ (qi 1)=w4 at *;clear h0 h1 h2 h3 h4 h5 h6 BM;refine (ze6 R cap a ts l1.tail w4 AU.out).mono ?_;rintro e w5 ⟨Ax,⟨hn,rfl⟩ | ⟨x,l5,v,hn,rfl,⟨a5,c5,rfl,AP,AG,hx3⟩,Bp⟩⟩
   . exact ⟨rfl,Az.out.trans Ax,Or.inl ⟨by rw [Bh.out,if_pos s1,hn],rfl⟩⟩
   have Cf:=Ax.size
   have HP:Hid (zbx l=some (.mk 1 m n [x] [] [],l5)):=by show zbx l=_;rw [Bh.out,if_pos s1,hn]
   have At:Hid (w5.heap[w.heap.size]? = some za2):=(Ax.block w.heap.size ae ae).trans Ap.out;have C5:Hid (w5.heap[w.heap.size+1]? = some (.cells #[qi 1,.string m,.string n,qs,qs,qs] 176 (0,0))):=(Ax.block (w.heap.size+1) ae ae).trans Df.out
   have HF:Hid (zeg R a cap ts w (zbx l) (zgp (w.heap.size<=·)) (.returned (.agg #[qi 1,.string m,.string n,.slice (some (qa w5.heap.size 0)) 1 1,qs,qs])) ((set6 (w5.setCell ⟨w.heap.size+1,3,none⟩ (.slice (some (qa w5.heap.size 0)) 1 1)) w.heap.size (qi 1) (.string m) (.string n) (.slice (some (qa w5.heap.size 0)) 1 1) (qs) (qs)).alloc (kzE x.op x.n x.mod x.name a5 x.args.length c5))):=by
    refine znx (s:=.mk 1 m n [x] [] []) HP.out ((((Az.out.trans Ax).set aT _).set6 (vaa _) _ _ _ _ _ _).alloc _) (((Bp.setAbove HR.out aT _).set6 HR.out (vaa _) _ _ _ _ _ _).alloc _) hm Dj ?_ (Or.inl rfl) (Or.inl rfl);refine zlk (t:=174) (cap:=c5) AP AG hx3 (((((zad.refl w5 _).set cq _).set6 (b:=w.heap.size) cT _ _ _ _ _ _).alloc _).to ae) ?_ (by show w.heap.size<=w5.heap.size;omega);have e:=heap_newP (set6 (w5.setCell ⟨w.heap.size+1,3,none⟩ (.slice (some (qa w5.heap.size 0)) 1 1)) w.heap.size (qi 1) (.string m) (.string n) (.slice (some (qa w5.heap.size 0)) 1 1) (qs) (qs)) (kzE x.op x.n x.mod x.name a5 x.args.length c5);simp only [vaq] at e;exact e
   obtain ⟨h0,h1,h2,h3,h4,h5,h6⟩:=zao At.out;obtain ⟨g0,g1,g2,g3,g4,g5,g6⟩:=zao C5.out
   have Rl:w.heap.size+1<w5.heap.size:=ae
   have Rk:w.heap.size<w5.heap.size:=ae
   clear hn Ax Bp AP AG hx3 Ap Df AU Az;go_wp2_with fail;refine bodyPost_ret (v:=.agg #[qi 1,.string m,.string n,.slice (some (qa w5.heap.size 0)) 1 1,qs,qs]) (by simp [results,Tryz.results285,go_sem,h0,h1,h2,h3,h4,h5,Rk]) rfl HF.out
 . have BB:=Ak.size
   have Af:Hid (w3.heap[w.heap.size]? = some za2):=(Ak.block w.heap.size ae ae).trans Ad.out;have BM:Hid (w3.heap[w.heap.size+1]? = some (.cells #[qi 0,.string m,.string n,qs,qs,qs] 176 (0,0))):=(Ak.block (w.heap.size+1) ae ae).trans Bl.out;obtain ⟨h0,h1,h2,h3,h4,h5,h6⟩:=zao BM.out;have AU:Hid (Rd R a cap ts (w3.setCell ⟨w.heap.size+1,0,none⟩ (qi 2)) l1.tail):=Aq.setAbove HR.out aT _;have Az:Hid (Keeps R w (w3.setCell ⟨w.heap.size+1,0,none⟩ (qi 2))):=(AN.out.trans Ak).set aT _;have Ap:Hid ((w3.setCell ⟨w.heap.size+1,0,none⟩ (qi 2)).heap[w.heap.size]? = some za2):=(heap_set_ne bq _).trans Af.out;have Df:Hid ((w3.setCell ⟨w.heap.size+1,0,none⟩ (qi 2)).heap[w.heap.size+1]? = some (.cells #[qi 2,.string m,.string n,qs,qs,qs] 176 (0,0))):=heap_set BM.out _
   have Db:(w3.setCell ⟨w.heap.size+1,0,none⟩ (qi 2)).heap.size=w3.heap.size:=bx
   clear Aq Ak Af An AN Ad Bl;go_wp2_with fail;generalize w3.setCell ⟨w.heap.size+1,0,none⟩ (qi 2)=w4 at *;clear h0 h1 h2 h3 h4 h5 h6 BM;refine (ze6 R cap a ts l1.tail w4 AU.out).mono ?_;rintro e w5 ⟨Ax,⟨hn,rfl⟩ | ⟨x,l5,v,hn,rfl,⟨a5,c5,rfl,AP,AG,hx3⟩,Bp⟩⟩
   . exact ⟨rfl,Az.out.trans Ax,Or.inl ⟨by rw [Bh.out,if_neg cM,if_pos s2,hn],rfl⟩⟩
   have Cf:=Ax.size
   have Mi:Hid (zbx l=if skB l5 tRs then (if skB l5.tail tEq then (match pX l5.tail.tail with | none=>none | some (y,l3)=>some (.mk 2 m n [x,y] [] [],l3)) else none) else none):=by show zbx l=_;rw [Bh.out,if_neg cM,if_pos s2,hn]
   have At:Hid (w5.heap[w.heap.size]? = some za2):=(Ax.block w.heap.size ae ae).trans Ap.out;have C5:Hid (w5.heap[w.heap.size+1]? = some (.cells #[qi 2,.string m,.string n,qs,qs,qs] 176 (0,0))):=(Ax.block (w.heap.size+1) ae ae).trans Df.out;have CG:Hid (Keeps R w w5):=Az.out.trans Ax;have DN:Hid (Rd R a cap ts w5 l5):=Bp;have CW:Hid (zav w5 (w4.heap.size<=·) x.ds (zfz x a5 c5)):=zf0 AP AG hx3;obtain ⟨h0,h1,h2,h3,h4,h5,h6⟩:=zao C5.out
   have Rl:w.heap.size+1<w5.heap.size:=ae
   clear hn Ax Bp AP AG hx3 Ap Df AU Az Bh;go_wp2_with fail;refine (zfy R cap _ a ts l5 tRs _ aA ((DN.out.setAbove HR.out aT _).alloc _) aq).mono ?_;rintro e w6 ⟨F1,⟨t6,rfl⟩ | ⟨t6,rfl,IL⟩⟩
   . exact ⟨rfl,((CG.out.set aT _).alloc _).trans F1,Or.inl ⟨by rw [Mi.out,t6];rfl,rfl⟩⟩
   have Hw:=F1.size;simp at Hw
   have EG:Hid (Row (w.heap.size+2) 174 5 w6 (.slice (some (qa w5.heap.size 0)) 1 1) 1 x.ds):=by
    have e:=Row.first (base:=w.heap.size+2) (e:=174) (size:=5) (w:=w5.setCell ⟨w.heap.size+1,3,none⟩ (.slice (some (qa w5.heap.size 0)) 1 1)) (A:=(w4.heap.size<=·)) (ds:=x.ds) (cs:=#[qi x.op,qi x.n,.string x.mod,.string x.name,.slice a5 x.args.length c5])
     (CW.out.moves ((zad.refl w5 _).set cq _)) (fun b _ hb=>ae) aF rfl
    simp only [vaq] at e;exact Row.keeps e F1 ae
   have Co:Hid (w6.heap[w.heap.size]? = some za2):=(F1.block w.heap.size aF ae).trans (zab ((heap_set_ne bq _).trans At.out));have J2:Hid (w6.heap[w.heap.size+1]? = some (.cells #[qi 2,.string m,.string n,.slice (some (qa w5.heap.size 0)) 1 1,qs,qs] 176 (0,0))):=(F1.block (w.heap.size+1) aF ae).trans (zab (heap_set C5.out _));have IW:Hid (Keeps R w w6):=((CG.out.set aT _).alloc _).trans F1;have KX:Hid (Rd R a cap ts w6 l5.tail):=IL;clear IL F1 DN CG CW At C5 h0 h1 h2 h3 h4 h5 h6;go_wp2_with fail;refine (zfy R cap _ a ts l5.tail tEq _ aA KX.out aq).mono ?_;rintro e w7 ⟨CS,⟨t7,rfl⟩ | ⟨t7,rfl,HR7⟩⟩
   . exact ⟨rfl,IW.out.trans CS,Or.inl ⟨by rw [Mi.out,t6,t7];rfl,rfl⟩⟩
   have Ja:=CS.size;have Hl:Hid (Row (w.heap.size+2) 174 5 w7 (.slice (some (qa w5.heap.size 0)) 1 1) 1 x.ds):=EG.out.keeps CS ae;have BF:Hid (w7.heap[w.heap.size]? = some za2):=(CS.block w.heap.size ae ae).trans Co.out;have G2:Hid (w7.heap[w.heap.size+1]? = some (.cells #[qi 2,.string m,.string n,.slice (some (qa w5.heap.size 0)) 1 1,qs,qs] 176 (0,0))):=(CS.block (w.heap.size+1) ae ae).trans J2.out;have DR:Hid (Keeps R w w7):=IW.out.trans CS;have DM:Hid (Rd R a cap ts w7 l5.tail.tail):=HR7
   have Ek:Hid (zbx l=match pX l5.tail.tail with | none=>none | some (y,l3)=>some (.mk 2 m n [x,y] [] [],l3)):=by show zbx l=_;rw [Mi.out,t6,t7];rfl
   obtain ⟨h0,h1,h2,h3,h4,h5,h6⟩:=zao G2.out;clear HR7 CS KX IW Co J2 EG Mi t6 t7
   cases hx:pX l5.tail.tail with
   | none=>
     have HE:Hid (∀ w',Rd R a cap ts w' l5.tail.tail->qc 283 #[pq R 0] w' fun e AC=>e = .panicked zai/\Keeps R w' AC):=fun w' h'=>by
      refine (ze6 R cap a ts _ w' h').mono ?_;exact fM
     have HP:Hid (zbx l=none):=by show zbx l=_;rw [Ek.out,hx]
     clear hx Ek;go_wp2_with fail;refine wp_region_any ah ?_
     change wpAny _ _ _ _ _ _ _ (World.drew _)
     refine wpAny_take (i:=2) (v:=pq R 0) rfl ah ah ah (fun c a w h=>h) (Or.inl ⟨aH,fun w=>aY⟩) ?_;refine wpAny_take (i:=0) (v:=.pointer (some ⟨w.heap.size+1,3,none⟩)) rfl ah ah ah (fun c a w h=>h) (Or.inl ⟨aH,fun w=>aY⟩) ?_;refine wpAny_ready (rs:=[1,3]) ah aA ?_;refine ver rfl (fun K hK=>?_) (ver rfl (fun K hK=>?_) veu)
     . go_simp
       refine hK _ _ ?_;clear hK K;refine wpAny_ready (rs:=[3]) ah aA ?_;refine ver rfl (fun K hK=>?_) veu;refine zbh aH 283 _ _ aH z6g _ aH zai (HE.out _ DM.out.drew) ?_;exact jC
     . refine zbh aH 283 _ _ aH z6g _ aH zai (HE.out _ DM.out.drew) ?_
       exact jC
   | some r=>
     obtain ⟨y,l8⟩:=r
     have HE:Hid (∀ w',Rd R a cap ts w' l5.tail.tail->qc 283 #[pq R 0] w' fun e AC=>∃ u,e = .returned u/\(Keeps R w' AC/\zhd (w'.heap.size<=·) y AC u/\Rd R a cap ts AC l8)):=fun w' h'=>by
      refine (ze6 R cap a ts _ w' h').mono ?_;exact fF
     have HP:Hid (zbx l=some (.mk 2 m n [x,y] [] [],l8)):=by show zbx l=_;rw [Ek.out,hx]
     clear hx Ek;go_wp2_with fail
     go_region_law (first
      | (refine zce aH 283 _ _ aH z6g _ aH (HE.out _ DM.out.drew) ?_
         rintro u8 w8 ⟨AO,⟨a8,c8,rfl,Di,D0,DB⟩,Cu⟩;have DA:w7.heap.size<=w8.heap.size:=AO.size
         have Jc:w.heap.size+1<w8.heap.size:=ae
         have Dt:Hid (w8.heap[w.heap.size+1]? = some (.cells #[qi 2,.string m,.string n,.slice (some (qa w5.heap.size 0)) 1 1,qs,qs] 176 (0,0))):=(AO.block (w.heap.size+1) (show w.heap.size+1<w7.heap.size by omega) ae).trans G2.out;have Bb:Hid (w8.heap[w.heap.size]? = some za2):=(AO.block w.heap.size (show w.heap.size<w7.heap.size by omega) ae).trans BF.out;have Jn:w8.cell? ⟨w.heap.size+1,3,none⟩=some (.slice (some (qa w5.heap.size 0)) 1 1):=(AO.cell (show w.heap.size+1<w7.heap.size by omega) ae).trans h3
         have D8:Hid (Row (w.heap.size+2) 174 5 w8 (.slice (some (qa w5.heap.size 0)) 1 1) 1 x.ds):=(Hl.out.keeps (Keeps.refl R w7).drew ae).keeps AO ae)
      | (refine zbm aH _ _ 172 aH (w.heap.size+2) 174 _ 5 72 Tryz.underlying172 Tryz.infoP80 rfl aq w8 _ 1 x.ds y.ds aH D8.out _ _ rfl aH rfl (w7.heap.size<=·) (zf0 Di D0 DB) (fun b _ hb=>⟨ae,fun h=>by have h':w5.heap.size=b:=vab h;omega⟩) ae aq ae ?_
         intro g9 c9 w9 DP B7 EQ;have JF:Hid (w9.heap[w.heap.size+1]? = some (.cells #[qi 2,.string m,.string n,.slice (some (qa w5.heap.size 0)) 1 1,qs,qs] 176 (0,0))):=(B7.block (w.heap.size+1) ae).trans Dt.out;have Tr:Hid (w9.heap[w.heap.size]? = some za2):=(B7.block w.heap.size ae).trans Bb.out;obtain ⟨k0,k1,k2,k3,k4,k5,k6⟩:=zao JF.out;obtain ⟨m0,m1,m2,m3,m4,m5,m6⟩:=zao Tr.out
         have Rq:w.heap.size≠w.heap.size+1:=ae
         have HF:Hid (zeg R a cap ts w (zbx l) (zgp (w.heap.size<=·)) (.returned (.agg #[qi 2,.string m,.string n,.slice (some (qa g9 0)) 2 c9,qs,qs])) (set6 (w9.setCell ⟨w.heap.size+1,3,none⟩ (.slice (some (qa g9 0)) 2 c9)) w.heap.size (qi 2) (.string m) (.string n) (.slice (some (qa g9 0)) 2 c9) (qs) (qs))):=z6f HR.out HP.out (DR.out.drew.trans AO) Cu hm Dj B7 DP))
     all_goals
      go_wp2_with fail;refine bodyPost_ret (v:=.agg #[qi 2,.string m,.string n,.slice (some (qa g9 0)) 2 c9,qs,qs]) (by simp [results,Tryz.results285,go_sem,m0,m1,m2,m3,m4,m5]) rfl HF.out
 . have BB:=Ak.size
   have Af:Hid (w3.heap[w.heap.size]? = some za2):=(Ak.block w.heap.size ae ae).trans Ad.out;have BM:Hid (w3.heap[w.heap.size+1]? = some (.cells #[qi 0,.string m,.string n,qs,qs,qs] 176 (0,0))):=(Ak.block (w.heap.size+1) ae ae).trans Bl.out;obtain ⟨h0,h1,h2,h3,h4,h5,h6⟩:=zao BM.out;have AU:Hid (Rd R a cap ts (w3.setCell ⟨w.heap.size+1,0,none⟩ (qi 3)) l1.tail):=Aq.setAbove HR.out aT _;have Az:Hid (Keeps R w (w3.setCell ⟨w.heap.size+1,0,none⟩ (qi 3))):=(AN.out.trans Ak).set aT _;have Ap:Hid ((w3.setCell ⟨w.heap.size+1,0,none⟩ (qi 3)).heap[w.heap.size]? = some za2):=(heap_set_ne bq _).trans Af.out;have Df:Hid ((w3.setCell ⟨w.heap.size+1,0,none⟩ (qi 3)).heap[w.heap.size+1]? = some (.cells #[qi 3,.string m,.string n,qs,qs,qs] 176 (0,0))):=heap_set BM.out _
   have Db:(w3.setCell ⟨w.heap.size+1,0,none⟩ (qi 3)).heap.size=w3.heap.size:=bx
   clear Aq Ak Af An AN Ad Bl;go_wp2_with fail;generalize w3.setCell ⟨w.heap.size+1,0,none⟩ (qi 3)=w4 at *;clear h0 h1 h2 h3 h4 h5 h6 BM;refine (z2w R cap a ts l1.tail w4 AU.out).mono ?_;rintro e w5 ⟨Ax,⟨hn,rfl⟩ | ⟨xs,l5,v,hn,rfl,⟨a5,c5,rfl,hx3⟩,Bp⟩⟩
   . exact ⟨rfl,Az.out.trans Ax,Or.inl ⟨by rw [Bh.out,if_neg cM,if_neg (by simp [s2]),if_pos s3,hn],rfl⟩⟩
   have Cf:=Ax.size
   have HP:Hid (zbx l=some (.mk 3 m n xs [] [],l5)):=by show zbx l=_;rw [Bh.out,if_neg cM,if_neg (by simp [s2]),if_pos s3,hn]
   have At:Hid (w5.heap[w.heap.size]? = some za2):=(Ax.block w.heap.size ae ae).trans Ap.out;have C5:Hid (w5.heap[w.heap.size+1]? = some (.cells #[qi 3,.string m,.string n,qs,qs,qs] 176 (0,0))):=(Ax.block (w.heap.size+1) ae ae).trans Df.out
   have HF:Hid (zeg R a cap ts w (zbx l) (zgp (w.heap.size<=·)) (.returned (.agg #[qi 3,.string m,.string n,.slice a5 xs.length c5,qs,qs])) (set6 (w5.setCell ⟨w.heap.size+1,3,none⟩ (.slice a5 xs.length c5)) w.heap.size (qi 3) (.string m) (.string n) (.slice a5 xs.length c5) (qs) (qs))):=by
    refine znx (s:=.mk 3 m n xs [] []) HP.out (((Az.out.trans Ax).set aT _).set6 (vaa _) _ _ _ _ _ _) ((Bp.setAbove HR.out aT _).set6 HR.out (vaa _) _ _ _ _ _ _) hm Dj ?_ (Or.inl rfl) (Or.inl rfl);exact hx3.moves ((((zad.refl w5 _).set cq _).set6 (b:=w.heap.size) cT _ _ _ _ _ _).to ae)
   obtain ⟨h0,h1,h2,h3,h4,h5,h6⟩:=zao At.out;obtain ⟨g0,g1,g2,g3,g4,g5,g6⟩:=zao C5.out;clear hn Ax Bp hx3 Ap Df AU Az;go_wp2_with fail;refine bodyPost_ret (v:=.agg #[qi 3,.string m,.string n,.slice a5 xs.length c5,qs,qs]) (by simp [results,Tryz.results285,go_sem,h0,h1,h2,h3,h4,h5]) rfl HF.out
set_option maxHeartbeats 1600000
theorem zz2 {l l':List Tk} {s:St} (h:zbx l=some (s,l')):l'.length<l.length:=by
 unfold zbx at h
 split at h
 . cases h
 rename_i m n l1 h1
 have:=ztq h1
 split at h
 . rename_i hs
   have:=zaj aq hs
   split at h
   . cases h
   rename_i x l2 h2
   have:=zpo h2;exact gy
 split at h
 . rename_i hs
   have:=zaj aq hs
   split at h
   . cases h
   rename_i x l2 h2
   have:=zpo h2
   split at h
   . rename_i AA
     have:=zaj aq AA
     split at h
     . rename_i Bq
       have:=zaj aq Bq
       split at h
       . cases h
       rename_i y l3 h3
       have:=zpo h3;exact gy
     . cases h
   . cases h
 split at h
 . rename_i hs
   have:=zaj aq hs
   split at h
   . cases h
   rename_i x l2 h2
   have:=z8w h2;exact gy
 . cases h
theorem zlm {r:Option (St × List Tk)} {l':List Tk} {s:St} {n:Nat} (h:zd5 r=some (s,l')) (hr:∀ s l,r=some (s,l)->l.length<n):l'.length<n:=by
 unfold zd5 at h
 split at h
 . cases h
 . rename_i s1 l1
   have:=hr s1 l1 rfl
   split at h
   . rename_i hs
     have:=zaj aq hs;exact gy
   . cases h
def zcu (f:Nat) (l:List Tk):Option (St × List Tk):=
 match pX l with
 | none=>none
 | some (x,l1)=>match zby f l1 with
   | none=>none
   | some (b,l2)=>if skB l2 ztp then (match zby f l2.tail with | none=>none | some (o,l3)=>if o.length=0 then none else some (.mk 4 ⟨#[]⟩ ⟨#[]⟩ [x] b o,l3))
     else some (.mk 4 ⟨#[]⟩ ⟨#[]⟩ [x] b [],l2)
theorem zu8 {f:Nat} {l:List Tk} (h:skB l tIf=true):zcm (f+1) l=zcu f l.tail:=by
 unfold zcm;rw [if_pos h];rfl
theorem zhx {f:Nat} {l:List Tk} (h:skB l tIf=false) (h1:skB l zhl=true):zcm (f+1) l=(match pX l.tail with
 | none=>none
 | some (x,l1)=>match zby f l1 with | none=>none | some (b,l2)=>some (.mk 5 ⟨#[]⟩ ⟨#[]⟩ [x] b [],l2)):=by
 unfold zcm;rw [if_neg (by simp [h]),if_pos h1];rfl
theorem zgq {f:Nat} {l:List Tk} (h:skB l tIf=false) (h1:skB l zhl=false) (h2:skB l zf4=true):zcm (f+1) l=zd5 (match pX l.tail with | none=>none | some (x,l1)=>some (.mk 6 ⟨#[]⟩ ⟨#[]⟩ [x] [] [],l1)):=by
 unfold zcm;rw [if_neg (by simp [h]),if_neg cJ,if_pos h2];rfl
theorem zln {f:Nat} {l:List Tk} (h:skB l tIf=false) (h1:skB l zhl=false) (h2:skB l zf4=false) (h3:skB l z48=true):zcm (f+1) l=zd5 (match pX l.tail with | none=>none | some (x,l1)=>some (.mk 7 ⟨#[]⟩ ⟨#[]⟩ [x] [] [],l1)):=by
 unfold zcm;rw [if_neg (by simp [h]),if_neg cJ,if_neg dU,if_pos h3];rfl
theorem zhy {f:Nat} {l:List Tk} (h:skB l tIf=false) (h1:skB l zhl=false) (h2:skB l zf4=false) (h3:skB l z48=false):zcm (f+1) l=zd5 (zbx l):=by
 unfold zcm;rw [if_neg (by simp [h]),if_neg cJ,if_neg dU,if_neg (by simp [h3])]
mutual
theorem zo9:∀ (f:Nat) (l l':List Tk) (s:St),zcm f l=some (s,l')->l'.length<l.length
 | 0,_,_,_,h=>by simp [zcm] at h
 | f + 1,l,l',s,h=>by
   unfold zcm at h
   split at h
   . rename_i hs
     have:=zaj aq hs
     split at h
     . cases h
     rename_i x l1 h1
     have:=zpo h1
     split at h
     . cases h
     rename_i b l2 h2
     have:=zgr f _ _ _ h2
     split at h
     . rename_i AA
       have:=zaj aq AA
       split at h
       . cases h
       rename_i o l3 h3
       have:=zgr f _ _ _ h3
       split at h
       . cases h
       . obtain ⟨_,rfl⟩:=vap (vab h)
         omega
     . obtain ⟨_,rfl⟩:=vap (vab h)
       omega
   split at h
   . rename_i hs
     have:=zaj aq hs
     split at h
     . cases h
     rename_i x l1 h1
     have:=zpo h1
     split at h
     . cases h
     rename_i b l2 h2
     have:=zgr f _ _ _ h2;obtain ⟨_,rfl⟩:=vap (vab h);omega
   split at h
   . rename_i hs
     have:=zaj aq hs;refine zlm h ?_;intro s l2 h2
     split at h2
     . cases h2
     rename_i x l1 h1
     have:=zpo h1;obtain ⟨_,rfl⟩:=vap (vab h2);omega
   split at h
   . rename_i hs
     have:=zaj aq hs;refine zlm h ?_;intro s l2 h2
     split at h2
     . cases h2
     rename_i x l1 h1
     have:=zpo h1;obtain ⟨_,rfl⟩:=vap (vab h2);omega
   . exact zlm h fun s l2 h2=>zz2 h2
theorem zgr:∀ (f:Nat) (l l':List Tk) (b:List St),zby f l=some (b,l')->l'.length<l.length
 | 0,_,_,_,h=>by simp [zby] at h
 | f + 1,l,l',s,h=>by
   unfold zby at h
   split at h
   . rename_i hs
     have:=zaj aq hs;have:=zq9 f _ _ _ _ h;omega
   . cases h
theorem zq9:∀ (f:Nat) (A5:List St) (l l':List Tk) (b:List St),zey f A5 l=some (b,l')->l'.length<l.length
 | 0,_,_,_,_,h=>by simp [zey] at h
 | f + 1,A5,l,l',b,h=>by
   unfold zey at h
   split at h
   . rename_i hs
     obtain ⟨_,rfl⟩:=vap (vab h);exact zaj aq hs
   split at h
   . cases h
   . rename_i s l1 h1
     have:=zo9 f _ _ _ h1;have:=zq9 f _ _ _ _ h;omega
end
structure StC (R cap:Nat) (a:OA) (ts:List Tk) (f:Nat):Prop where
 stmt:∀ (l:List Tk) (w:World),Rd R a cap ts w l->3*l.length+1<=f->qc 254 #[pq R 0] w (zeg R a cap ts w (zcm f l) (zgp (w.heap.size<=·)))
 block:∀ (l:List Tk) (w:World),Rd R a cap ts w l->3*l.length+1<=f->qc 201 #[pq R 0] w (zeg R a cap ts w (zby f l) (z93 (w.heap.size<=·)))
theorem zww (R cap:Nat) (a:OA) (ts:List Tk) (f:Nat) (IH:∀ g,g<=f->StC R cap a ts g) (l:List Tk) (w:World) (h:Rd R a cap ts w l) (hf:3*l.length+1<=f+1) :
 qc 201 #[pq R 0] w (zeg R a cap ts w (zby (f+1) l) (z93 (w.heap.size<=·))):=by
 have HI:Hid (∀ g,g<=f->StC R cap a ts g):=IH;have HR:Hid (Rd R a cap ts w l):=h;have CO:=h.lt
 have I8:l.length<=4096:=by
  exact ik
 clear IH h;go_enter Tryz.func201,Tryz.ntmps201;go_wp2_with fail;refine (zfy R cap _ a ts l tLb _ rfl HR.out aq).mono ?_;rintro e w1 ⟨AL,⟨hs,rfl⟩ | ⟨hs,rfl,AY⟩⟩
 . exact ⟨rfl,AL,Or.inl ⟨by unfold zby;rw [if_neg eE],rfl⟩⟩
 have CJ:=zaj aq hs
 have HP:Hid (zby (f+1) l=zey f [] l.tail):=by show zby (f+1) l=_;unfold zby;rw [if_pos hs]
 have BP:Hid (Rd R a cap ts w1 l.tail):=AY;have B3:Hid (Keeps R w w1):=AL;have Ao:=AL.size;clear AY AL hs;go_wp2_with fail
 go_loopw [3] (fun v wr=>∃ (g:Nat) (A5:List St) (l':List Tk),g<=f/\zby (f+1) l=zey g A5 l'/\3*l'.length+2<=g/\A5.length+l'.length<=l.length/\Row w.heap.size 176 6 wr v A5.length (zbs A5)/\Rd R a cap ts wr l'/\Keeps R w wr) (fun _ wr=>zih R ts.length wr)
 case atStart=>exact ⟨f,[],l.tail,vaa _,HP.out,ae,aA,Row.nil _ _ _ _,BP.out,B3.out⟩
 case round=>
  obtain ⟨g,A5,l',hg,hpm,Ah,hacc,Aa,Dv,Be⟩:=hrel;have HG:Hid (zby (f+1) l=zey g A5 l'):=hpm;have HO:Hid (Row w.heap.size 176 6 wr u3 A5.length (zbs A5)):=Aa;have HD:Hid (Rd R a cap ts wr l'):=Dv;have HE:Hid (Keeps R w wr):=Be;have C1:=Be.size
  obtain ⟨g,rfl⟩:∃ g',g=g'+1:=⟨g - 1,ae⟩
  clear hpm Aa Dv Be HP;go_wp2_with fail
  by_cases hs:skB l' tRb=true
  . have HP:Hid (zby (f+1) l=some (A5,l'.tail)):=by show zby (f+1) l=_;rw [HG.out];unfold zey;rw [if_pos hs]
    refine (zbn R cap a ts l' tRb wr aq HD.out hs).mono ?_;rintro e w3 ⟨rfl,Aq,Ak⟩;have D9:Hid (Row w.heap.size 176 6 w3 u3 A5.length (zbs A5)):=HO.out.keeps Ak CO;exact iU
  refine (zb7 R cap a ts l' tRb wr HD.out (by simpa using hs)).mono ?_;rintro e w3 ⟨rfl,Aq,Ak⟩;have BB:=Ak.size;go_wp2_with fail;refine ((HI.out g ae).stmt l' w3 Aq ae).mono ?_;rintro e w4 ⟨Az,⟨hn,rfl⟩ | ⟨y,l4,v,hn,rfl,⟨a1,c1,a2,c2,a3,c3,rfl,AP,AG,hx3,hx4,hx5⟩,AU⟩⟩
  . exact ⟨rfl,(HE.out.trans Ak).trans Az,Or.inl ⟨by rw [HG.out];unfold zey;rw [if_neg hs,hn],rfl⟩⟩
  have FV:=zo9 _ _ _ _ hn
  have HP:Hid (zby (f+1) l=zey g (A5++[y]) l4):=by show zby (f+1) l=_;rw [HG.out];unfold zey;rw [if_neg hs,hn];cases g<;>rfl
  have Ei:Hid (zav w4 (w3.heap.size<=·) y.ds (zz0 y a1 c1 a2 c2 a3 c3)):=z2x AP AG hx3 hx4 hx5;have C8:Hid (Rd R a cap ts w4 l4):=AU;have BR:Hid (Keeps R w w4):=(HE.out.trans Ak).trans Az;have EH:Hid (Row w.heap.size 176 6 w4 u3 A5.length (zbs A5)):=(HO.out.keeps Ak CO).keeps Az CO;have Db:=Az.size
  have HL:Hid (∀ k,u3.ownBlock=some k->k<w3.heap.size):=fun k hk=>((HO.out.keeps Ak CO).lt k hk).2
  have Ev:=HD.out.left;clear hn Aq AU Ak Az AP AG hx3 hx4 hx5 hs
  go_wp2_with (at_builtin;refine zbv rfl (.tmp 10) (.tmp 13) 25 rfl w.heap.size 176 _ 6 112 Tryz.underlying25 Tryz.infoP48 rfl aq w4 u3 A5.length (zbs A5) y.ds rfl EH.out _ _ rfl rfl rfl (w3.heap.size<=·) Ei.out ?_ ae aq ae ?_)
  . exact jL
  . intro g5 c5 w5 Bw At Cf
    have Ba:Hid (Row w.heap.size 176 6 w5 (.slice (some (qa g5 0)) (A5.length+1) c5) (A5.length+1) (zbs A5++y.ds)):=Bw;have Bp:Hid (Rd R a cap ts w5 l4):=C8.out.belowOf HR.out At;have Ax:Hid (Keeps R w w5):=BR.out.belowOf At;have Gk:=Bp.out.left;clear Bw At EH C8 BR Ei;go_wp2_with fail;go_roundw
    case rel=>exact ⟨g,A5++[y],l4,ae,HP.out,ae,aF,by rw [zh3,zvi,vaj];exact Ba.out,Bp.out,Ax.out⟩
    case measure=>rw [Gk,Ev];omega
end Go.Proofs.YtndkhgakfodldaaGreatDoor
