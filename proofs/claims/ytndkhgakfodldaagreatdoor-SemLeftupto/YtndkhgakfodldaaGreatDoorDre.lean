import Derived.Test.YtndkhgakfodldaaGreatDoorDwa
namespace Go.Proofs.YtndkhgakfodldaaGreatDoor
set_option maxRecDepth 100000
set_option maxHeartbeats 6400000
open Go.RowKit Go.Shelf
set_option linter.unusedSimpArgs false
set_option linter.unusedVariables false
theorem zwy {l:List Un} {inp:List Int} {ticks:Int} (h:errS l inp ticks=0) (hl:inp.length≠64):errS l (inp++[0]) ticks=0/\ansS l (inp++[0]) ticks=ansS l inp ticks:=by
 obtain ⟨h1,h2,h3,h4⟩:=zin h;have h5:errS l (inp++[0]) ticks=0:=zty h1 (by rw [vag,vbg];omega) h3 h4;exact ⟨h5,by rw [zoy h,zoy h5];exact zyy l inp ticks.toNat⟩
theorem zot (l:List Un) (inp:List Int) (ticks:Int) (au:OA) (cu:Nat) (ai:OA) (ci:Nat) (w:World) (hD:DAt w Tt au l.length (zfs l)) (hI:DAt w Tt ai inp.length (zdx inp)) (hci:inp.length<=ci) (hS:∀ u ∈ l,u.uses.length<=2000000) :
 Calls Tryz.prog 7 #[.slice au l.length cu,.slice ai inp.length ci,.int .i64 ticks] w fun e w'=>e = .returned (.bool true)/\Below w.heap.size w w':=by
 have HRun:=hid (fun inp' ai' ci' W (hW:Below w.heap.size w W) hI' hci'=>ztw l inp' ticks au cu ai' ci' W (hD.later hW) hI' hci' hS);have HD:=hid hD;have HI:=hid hI
 have hwf:∀ i ∈ inp,(Lit.int .i64 i).wf=true:=fun i hi=>by
  obtain ⟨k,hk,rfl⟩:=vbu hi;obtain ⟨_,_,_,_,_,h⟩:=hI.num k hk;exact h
 have HWf:=hid hwf;have HR0:=hid (HRun.out inp ai ci w (Below.refl _ _) hI hci);clear hD hI hci hS hwf
 by_cases hE:errS l inp ticks=0
 . obtain ⟨hp1,hp2,hp3,hp4⟩:=zin hE
   have HR1:=HR0.out;rw [hE] at HR1;have HR:=hid HR1;have HLf:=hid (fun hl=>zwy hE hl);have hsm:=ztz hE;have HOk:=hid (zov hp1);obtain ⟨b0,o0,_,_,_,_,_,_,rfl, -⟩:=HD.out.un 0 HOk.out.z;clear HR1 hE HR0 hp1 hp3 hp4;generalize ansS l inp ticks=r at *;go_enter Tryz.func7,Tryz.ntmps7;go_wp2_with fail;refine HR.out.mono ?_;rintro e w1 ⟨hb1,v1,rfl,ao,co,ad,cd,rfl,hn1,hn2, -⟩;have HB1:=hid hb1;have HN1:=hid (And.intro hn1 hn2);clear hb1 hn1 hn2
   by_cases h64:inp.length=64
   . have h64':(inp.length:Int)=64:=by omega
     go_wp2_with fail;refine (ze3 _).mono ?_;rintro e w2 ⟨rfl,hb2⟩;have HB2:=hid (thenB (thenB HB1.out (al1 w1 _)) hb2);clear hb2;go_wp2_with fail
     go_returns
     exact ⟨rfl,HB2.out⟩
   . have h64':((inp.length:Int) == 64)=false:=by rw [beq_eq_false_iff_ne];omega
     have HLg:=hid (HLf.out h64);have HX1:=hid (heap_newP w1 (.cells #[.int .i64 r.end_,.slice ao r.out.length co,.slice ad r.data.length cd,.int .i64 r.ticks] 51))
     obtain ⟨W1,hW1⟩:∃ W1,W1=w1.alloc (.cells #[.int .i64 r.end_,.slice ao r.out.length co,.slice ad r.data.length cd,.int .i64 r.ticks] 51):=⟨_,rfl⟩
     have HBa:Hid (Below w.heap.size w W1):=by rw [hW1];exact thenB HB1.out (al1 w1 _)
     have HN2:Hid (ze0 W1 ao r.out/\ze0 W1 ad r.data):=by rw [hW1];exact ⟨HN1.out.1.later (al1 w1 _),HN1.out.2.later (al1 w1 _)⟩
     have HX2:Hid (W1.heap[w1.heap.size]? = some (.cells #[.int .i64 r.end_,.slice ao r.out.length co,.slice ad r.data.length cd,.int .i64 r.ticks] 51)):=by rw [hW1];exact HX1.out
     obtain ⟨v3,w3,hr3,ho3,hg3⟩:=zjk (w:=W1.alloc (.cells #[] 3)) W1.heap.size 49 (.slice (some ⟨W1.heap.size,0,none⟩) 0 0) 0 [] (zv1 (heap_newP W1 _) (vaa _)) inp ai ci (HI.out.later (thenB HBa.out (al1 W1 _))) (by omega) (by simp);have hb3:Below W1.heap.size W1 w3:=((al1 W1 (.cells #[] 3))).grown hg3 (by simp) (fun k hk=>by simp [Value.ownBlock] at hk;omega);have HO3:Hid (w3.ownsRow W1.heap.size 3 1 v3 inp.length (intV inp)):=hid (by simpa using ho3);have HB3:=hid (thenB HBa.out hb3);have HX3:=hid (zav HX2.out hb3);have HN3:=hid (And.intro (HN2.out.1.later hb3) (HN2.out.2.later hb3));have hz3:=hb3.size;have HX0z:=hid (zab HX2.out)
     have HNw:Hid (∀ W,Below W1.heap.size w3 W->ze0 W ao r.out/\ze0 W ad r.data):=fun W hW=>⟨HN2.out.1.later (hb3.trans hW),HN2.out.2.later (hb3.trans hW)⟩
     clear ho3 hg3 hb3 HX1 HX2 HN1 HN2 h64;go_upto_region 4 with fail;rw [← hW1];clear hW1
     go_wp2_with (at_builtin;first
      | (refine Lib.wpList_append_run _ rfl (.tmp 30) (.tmp 31) 49 49 rfl _ _ rfl rfl _ _ hr3 ?_)
      | (refine zfu rfl (.tmp 32) (.tmp 33) 49 rfl W1.heap.size 3 _ 1 8 Tryz.underlying49 Tryz.infoI rfl (by decide) w3 v3 inp.length (intV inp) rfl HO3.out #[.int .i64 0] _ rfl rfl rfl (zoz 0) (by omega) (by decide) hz3 ?_;intro g4 c4 w4 ho4 hb4 hz4 hkp4 hkb4;have HO4:=hid ho4;have HB4:=hid hb4;clear ho4 hb4 hz4 hkp4 hkb4))
     have hR5:∃ H:Prop,H/\(H->Calls Tryz.prog 25 #[.slice (some ⟨b0,o0,none⟩) l.length cu,.slice (some ⟨g4,0,none⟩) (inp.length+1) c4,.int .i64 ticks] w4 fun e w'=>Below w4.heap.size w4 w'/\∃ v,e = .returned (.tuple #[v,.int .i64 0])/\zzv w' r v):=by
      refine ⟨True,trivial,fun _=>?_⟩
      have ho:w4.ownsRow W1.heap.size 3 1 (.slice (some ⟨g4,0,none⟩) (inp.length+1) c4) (inp.length+1) (intV (inp++[0])):=by rw [zmp];exact HO4.out
      obtain ⟨a,cap,e,hle,hd⟩:=z0t ho (by simp) (by simp;omega) (fun i hi=>by
       rcases vbp.1 hi with h | h
       . exact HWf.out i h
       . obtain rfl:=vby.1 h
         decide)
      have hln:(inp++[0]).length=inp.length+1:=by simp
      rw [hln] at e hle
      cases e
      have:=HRun.out (inp++[0]) (some ⟨g4,0,none⟩) c4 w4 (HB3.out.trans (HB4.out.mono HBa.out.size)) hd (by rw [hln];exact hle);rw [HLg.out.1,HLg.out.2,hln] at this;exact this
     obtain ⟨_,h5,hR5⟩:=hR5;have HR5:=hid (hR5 h5);have HBd:Hid (Below w.heap.size w w4):=HB3.out.trans (HB4.out.mono HBa.out.size);have hlow:=HX3.out;have HX4:Hid (w4.heap[w1.heap.size]? = some (.cells #[.int .i64 r.end_,.slice ao r.out.length co,.slice ad r.data.length cd,.int .i64 r.ticks] 51)):=(HB4.out.block _ HX0z.out).trans HX3.out;have HN4:Hid (ze0 w4 ao r.out/\ze0 w4 ad r.data):=HNw.out w4 HB4.out;clear hR5 h5 hlow HRun
     with_reducible refine HR5.out.mono ?_
     rintro e w5 ⟨hb5,v5,rfl,bo,bc,dd,de,rfl,hm1,hm2, -⟩;have HX5:=hid (zav (zav HX4.out hb5) (al1 w5 (.cells #[.int .i64 r.end_,.slice bo r.out.length bc,.slice dd r.data.length de,.int .i64 r.ticks] 51)));have HY5:=hid (heap_newP w5 (.cells #[.int .i64 r.end_,.slice bo r.out.length bc,.slice dd r.data.length de,.int .i64 r.ticks] 51));have HN5:=hid (And.intro ((HN4.out.1.later hb5).later (al1 w5 (.cells #[.int .i64 r.end_,.slice bo r.out.length bc,.slice dd r.data.length de,.int .i64 r.ticks] 51))) ((HN4.out.2.later hb5).later (al1 w5 (.cells #[.int .i64 r.end_,.slice bo r.out.length bc,.slice dd r.data.length de,.int .i64 r.ticks] 51))));have HM5:=hid (And.intro (hm1.later (al1 w5 (.cells #[.int .i64 r.end_,.slice bo r.out.length bc,.slice dd r.data.length de,.int .i64 r.ticks] 51))) (hm2.later (al1 w5 (.cells #[.int .i64 r.end_,.slice bo r.out.length bc,.slice dd r.data.length de,.int .i64 r.ticks] 51))))
     have HB5:=hid (thenB (thenB HBd.out hb5) (al1 w5 (.cells #[.int .i64 r.end_,.slice bo r.out.length bc,.slice dd r.data.length de,.int .i64 r.ticks] 51)));clear hb5 hm1 hm2 HX3 HX4 HN3 HN4 HR5
     obtain ⟨W6,hW6⟩:∃ W6,W6=w5.alloc (.cells #[.int .i64 r.end_,.slice bo r.out.length bc,.slice dd r.data.length de,.int .i64 r.ticks] 51):=⟨_,rfl⟩
     rw [← hW6] at HX5 HY5 HN5 HM5 HB5;go_wp2_with fail;rw [← hW6];clear hW6;have hbl:=HD.out.bound
     go_loopw [11,12] (fun sm i wr=>∃ j:Nat,j<=l.length/\i = .int .i64 j/\sm = .int .i64 (sumD (l.take j))/\wr=W6) (fun _ i _=>l.length - (intOf i).toNat)
     case atStart=>exact ⟨0,vad _,rfl,rfl,rfl⟩
     case round=>
      obtain ⟨j,hj,rfl,rfl,rfl⟩:=hrel
      by_cases hlt:j<l.length
      . obtain ⟨b',off',a1,k1,a2,k2,a3,k3,he,hx⟩:=(HD.out.later HB5.out).un j hlt
        cases he;obtain ⟨hblk,c0,c1,c2,c3,c4,_,_,_,_,_⟩:=hx;have HSd:=hid (zei l j hlt);have hbd:=zho l HOk.out.d j;have hdj:=HOk.out.d l[j] (vah hlt);have h4:=HOk.out.f;generalize l[j]=x at *;generalize sumD (l.take j)=sj at *
        have hwr:wrap64 (sj+x.data)=sj+x.data:=by unfold wrap64;omega
        clear c0 c1 c3 c4 h4;go_wp2_with fail;go_roundw
        case rel=>exact ⟨j+1,by omega,by go_num,by rw [HSd.out],by trivial⟩
        case measure=>simp [intOf];omega
      . obtain rfl:j=l.length:=by omega
        have hsd:sumD (l.take l.length)=(r.data.length:Int):=by rw [vaz];exact hsm.2.1.symm
        have h5:r.data.length<=512:=by have:=hsm.2;omega
        have h2:(r.out.length:Int)<=200:=by have:=hsm.1;omega
        have h2b:decide ((r.out.length:Int)<=200)=true:=decide_eq_true h2;simp only [hsd];clear hsm hsd;go_wp2_with fail;refine (ze3 _).mono ?_;rintro e w7 ⟨rfl,hb7⟩;have HB7:=hid (thenB HB5.out hb7);obtain ⟨p0,p1,p2,p3,pz,pf⟩:=za2 (zav HX5.out hb7);obtain ⟨z0,z1,z2,z3,zz,zf⟩:=za2 (zav HY5.out hb7);have HX7:=hid (zav HX5.out hb7);have HSr:=hid (zex r.end_ r.ticks ao bo ad dd co bc cd de r.out r.data w7 (HN5.out.1.later hb7) (HM5.out.1.later hb7) (HN5.out.2.later hb7) (HM5.out.2.later hb7) (by omega) (by omega));clear hb7;go_wp2_with fail
        with_reducible refine HSr.out.mono ?_
        rintro e w8 ⟨rfl,hb8⟩;have HB8:=hid (thenB HB7.out hb8);clear p0 p1 p2 p3 pz pf z0 z1 z2 z3 zz zf;obtain ⟨p0,p1,p2,p3,pz,pf⟩:=za2 (zav HX7.out hb8);clear hb8;go_wp2_with fail
        go_returns
        exact ⟨rfl,HB8.out⟩
 . have hb1:(errS l inp ticks != 0)=true:=by simp [hE]
   have HR:=hid HR0.out;clear hE HR0;generalize errS l inp ticks=er at *;generalize ansS l inp ticks=r at *;go_enter Tryz.func7,Tryz.ntmps7;go_wp2_with fail;refine HR.out.mono ?_;rintro e w1 ⟨hbb,v1,rfl,ao,co,ad,cd,rfl, -, -, -⟩;have HB1:=hid hbb;clear hbb;go_wp2_with fail;refine (ze3 _).mono ?_;rintro e w2 ⟨rfl,hb2⟩;have HB2:=hid (thenB (thenB HB1.out (al1 w1 _)) hb2);clear hb2;go_wp2_with fail
   go_returns
   exact ⟨rfl,HB2.out⟩
end Go.Proofs.YtndkhgakfodldaaGreatDoor
