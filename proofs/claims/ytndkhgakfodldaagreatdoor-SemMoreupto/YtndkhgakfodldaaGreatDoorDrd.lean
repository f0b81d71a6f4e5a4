import Derived.Test.YtndkhgakfodldaaGreatDoorDwa
namespace Go.Proofs.YtndkhgakfodldaaGreatDoor
set_option maxRecDepth 100000
set_option maxHeartbeats 6400000
open Go.RowKit Go.Shelf
set_option linter.unusedSimpArgs false
set_option linter.unusedVariables false
theorem ziq {l:List Un} {inp:List Int} {ticks:Int} (h:errS l inp ticks=0):zh2 l=0/\inp.length<=64/\0<=ticks/\ticks<=2000:=by
 unfold errS at h
 split at h
 . rename_i h1;exact absurd h h1
 . rename_i h1
   split at h
   . cases h
   . split at h
     . cases h
     . exact ⟨by simpa using h1,by omega,by omega,by omega⟩
theorem ztz {l:List Un} {inp:List Int} {ticks:Int} (h1:zh2 l=0) (h2:inp.length<=64) (h3:0<=ticks) (h4:ticks<=2000):errS l inp ticks=0:=by
 unfold errS;rw [if_neg (by simp [h1]),if_neg (by omega),if_neg (by omega)]
theorem zow {l:List Un} {inp:List Int} {ticks:Int} (h:errS l inp ticks=0):ansS l inp ticks=(zjq l inp ticks.toNat).res:=if_pos h
theorem zm8 {l:List Un} {inp:List Int} {ticks:Int} (h:errS l inp ticks=0):(ansS l inp ticks).out.length<=200/\((ansS l inp ticks).data.length:Int)=sumD l/\sumD l<=512:=by
 rw [zow h];have h1:=zy4 l inp ticks.toNat;have h2:=zt2 (ziq h).1;have h3:=(zjh l h2.d l.length).1;rw [vba] at h3;refine ⟨h1.2,?_,h2.s⟩;rw [h1.1];unfold zv9;omega
theorem zqp {l:List Un} {inp:List Int} {t c:Nat} (h:errS l inp t=0) (hc:t+1+c<=2000):errS l inp ((t:Int)+1+c)=0/\((ansS l inp t).ticks:Int)<=t/\(ansS l inp t).out <+: (ansS l inp ((t:Int)+1+c)).out/\((ansS l inp t).end_=3\/ansS l inp ((t:Int)+1+c)=ansS l inp t):=by
 obtain ⟨h1,h2,h3,h4⟩:=ziq h;have h5:errS l inp ((t:Int)+1+c)=0:=ztz h1 h2 (by omega) (by omega);have h6:=zy3 l inp (lim:=t) (lim':=t+1+c) (by omega);rw [zow h,zow h5,show ((t:Int)+1+c).toNat=t+1+c from by omega,vbe];exact ⟨h5,by omega,h6.2.1,h6.2.2⟩
theorem zox (l:List Un) (inp:List Int) (ticks more:Int) (au:OA) (cu:Nat) (ai:OA) (ci:Nat) (w:World) (hD:DAt w Tt au l.length (zft l)) (hI:DAt w Tt ai inp.length (zez inp)) (hci:inp.length<=ci) (hS:∀ u ∈ l,u.uses.length<=2000000) (hm:(Lit.int .i64 more).wf=true) :
 Calls Tryz.prog 6 #[.slice au l.length cu,.slice ai inp.length ci,.int .i64 ticks,.int .i64 more] w fun e w'=>e = .returned (.bool true)/\Below w.heap.size w w':=by
 have HRun:=hid (fun t W (hW:Below w.heap.size w W)=>zt3 l inp t au cu ai ci W (hD.later hW) (hI.later hW) hci hS);have HM:=hid hm;clear hD hI hci hS hm
 by_cases hE:errS l inp ticks=0
 . obtain ⟨-, -,hp3,hp4⟩:=ziq hE
   obtain ⟨t,rfl⟩:∃ t:Nat,ticks=t:=⟨ticks.toNat,by omega⟩
   have HR1:=HRun.out (t:Int) w (Below.refl _ _);rw [hE] at HR1;have HR:=hid HR1;have HMo:=hid (fun c hc=>zqp (c:=c) hE hc);have HSm:=hid (zm8 hE);have HSq:=hid (fun c hc=>zm8 (zqp (c:=c) hE hc).1);clear HR1 hE hp3;generalize ansS l inp (t:Int)=r at *;go_enter Tryz.func6,Tryz.ntmps6;go_wp2_with fail;refine HR.out.mono ?_;rintro e w1 ⟨hb1,v1,rfl,ao,co,ad,cd,rfl,hn1,hn2,hco⟩;have HB1:=hid hb1;have HN1:=hid (And.intro hn1 hn2);clear hb1 hn1 hn2 hco
   by_cases h2000:t=2000
   . subst h2000
     go_wp2_with fail;refine (ze3 _).mono ?_;rintro e w2 ⟨rfl,hb2⟩;have HB2:=hid (thenB (thenB HB1.out (al1 w1 _)) hb2);clear hb2;go_wp2_with fail
     go_returns
     exact ⟨rfl,HB2.out⟩
   . have hti:((t:Int) == 2000)=false:=by rw [beq_eq_false_iff_ne];omega
     have hw1:wrap64 ((t:Int)+1)=(t:Int)+1:=by unfold wrap64;omega
     have hw2:wrap64 (2000 - (t:Int))=2000 - (t:Int):=by unfold wrap64;omega
     have HCh:Hid (∀ W:World,Calls Tryz.prog 27 #[.int .i64 more,.int .i64 (2000 - (t:Int))] W fun e w'=>∃ i:Nat,i<2000 - t/\e = .returned (.int .i64 i)/\w'=W):=fun W=>by
      have:=ztd more (2000 - t) W HM.out (by omega) (by omega);rw [show ((2000 - t:Nat):Int)=2000 - (t:Int) from by omega] at this;exact this
     have HBa:=hid (thenB HB1.out (al1 w1 (.cells #[.int .i64 r.end_,.slice ao r.out.length co,.slice ad r.data.length cd,.int .i64 r.ticks] 51)));have HX1:=hid (heap_newP w1 (.cells #[.int .i64 r.end_,.slice ao r.out.length co,.slice ad r.data.length cd,.int .i64 r.ticks] 51));go_wp2_with fail
     with_reducible refine (HCh.out _).mono ?_
     rintro e w' ⟨c,hc,rfl,rfl⟩
     have hw3:wrap64 ((t:Int)+1+c)=(t:Int)+1+c:=by unfold wrap64;omega
     have hR2:=HRun.out ((t:Int)+1+c) _ HBa.out;obtain ⟨g1,g2,g3,g4⟩:=HMo.out c (by omega)
     have hsq:=(HSq.out c (by omega))
     rw [g1] at hR2;have HR2:=hid hR2;clear hR2 g1;generalize ansS l inp ((t:Int)+1+c)=q at *;have HPr:=hid g3;have HEq:=hid g4;have HSr:=hid HSm.out;have hl1:=HSm.out.1;have hl2:=g3.length_le;have HQ:=hid hsq;clear g3 g4 hsq;go_wp2_with fail
     with_reducible refine HR2.out.mono ?_
     rintro e w2 ⟨hb2,v2,rfl,bo,bc,dd,de,rfl,hm1,hm2,hbc⟩;have HBb:=hid (thenB (thenB HBa.out hb2) (al1 w2 (.cells #[.int .i64 q.end_,.slice bo q.out.length bc,.slice dd q.data.length de,.int .i64 q.ticks] 51)));have HX2:=hid (zaz (zaz HX1.out hb2) (al1 w2 (.cells #[.int .i64 q.end_,.slice bo q.out.length bc,.slice dd q.data.length de,.int .i64 q.ticks] 51)));have HY2:=hid (heap_newP w2 (.cells #[.int .i64 q.end_,.slice bo q.out.length bc,.slice dd q.data.length de,.int .i64 q.ticks] 51));have HN2:=hid (And.intro ((HN1.out.1.later (thenB (al1 w1 _) hb2)).later (al1 w2 (.cells #[.int .i64 q.end_,.slice bo q.out.length bc,.slice dd q.data.length de,.int .i64 q.ticks] 51))) ((HN1.out.2.later (thenB (al1 w1 _) hb2)).later (al1 w2 (.cells #[.int .i64 q.end_,.slice bo q.out.length bc,.slice dd q.data.length de,.int .i64 q.ticks] 51))));have HM2:=hid (And.intro (hm1.later (al1 w2 (.cells #[.int .i64 q.end_,.slice bo q.out.length bc,.slice dd q.data.length de,.int .i64 q.ticks] 51))) (hm2.later (al1 w2 (.cells #[.int .i64 q.end_,.slice bo q.out.length bc,.slice dd q.data.length de,.int .i64 q.ticks] 51))))
     clear hb2 hm1 hm2 HR2 HX1 HN1;go_upto_region 5 with fail
     obtain ⟨W3,hW3⟩:∃ W3,W3=w2.alloc (.cells #[.int .i64 q.end_,.slice bo q.out.length bc,.slice dd q.data.length de,.int .i64 q.ticks] 51):=⟨_,rfl⟩
     rw [← hW3] at HBb HX2 HY2 HN2 HM2;rw [← hW3];clear hW3;obtain ⟨p0,p1,p2,p3,pz,pf⟩:=za1 HX2.out;obtain ⟨z0,z1,z2,z3,zz,zf⟩:=za1 HY2.out;have HSi:=hid (ze2 ao bo co bc r.out W3.drew (HN2.out.1.later (bdrew W3)) ((HM2.out.1.later (bdrew W3)).take HPr.out) (by omega));clear p0 p2 z0 z2 z3
     have hgt:¬ ((t:Int)<(r.ticks:Int)):=by omega
     have hgl:¬ ((q.out.length:Int)<(r.out.length:Int)):=by omega
     have hsl:r.out.length<=bc:=by omega
     have hS0:(fun W:World=>W.cell? ⟨w1.heap.size,3,none⟩=some (.int .i64 r.ticks)/\W.cell? ⟨w1.heap.size,1,none⟩=some (.slice ao r.out.length co)/\W.cell? ⟨w2.heap.size,1,none⟩=some (.slice bo q.out.length bc)) W3.drew:=⟨p3,p1,z1⟩
     have hS1:∀ m,(fun W:World=>W.cell? ⟨w1.heap.size,3,none⟩=some (.int .i64 r.ticks)/\W.cell? ⟨w1.heap.size,1,none⟩=some (.slice ao r.out.length co)/\W.cell? ⟨w2.heap.size,1,none⟩=some (.slice bo q.out.length bc)) (W3.drew.drewN m):=fun m=>⟨p3,p1,z1⟩
     refine wp_region_held_drew (S:=(fun W=>W.cell? ⟨w1.heap.size,3,none⟩=some (.int .i64 r.ticks)/\W.cell? ⟨w1.heap.size,1,none⟩=some (.slice ao r.out.length co)/\W.cell? ⟨w2.heap.size,1,none⟩=some (.slice bo q.out.length bc))) (by kernel_rfl) hS0 (fun hHeld=>?_);refine tkn 0 (.int .i64 0) rfl (by kernel_rfl) (fun _ _ _ h=>h) (fun W hW=>by kernel_rfl) hHeld ?_;refine tkn 1 (.bool false) rfl (by kernel_rfl) (fun _ _ _ h=>h) (fun W hW=>by kernel_rfl) hHeld ?_;refine tkn 2 (.bool false) rfl (by kernel_rfl) (fun _ _ _ h=>h) (fun W hW=>by kernel_rfl) hHeld ?_;refine tkn 3 (.pointer (some ⟨w1.heap.size,3,none⟩)) rfl (by kernel_rfl) (fun _ _ _ h=>h) (fun W hW=>by kernel_rfl) hHeld ?_;refine tkn 4 (.int .i64 r.ticks) rfl (by kernel_rfl) (fun _ _ _ h=>h) (fun W hW=>by obtain ⟨s0,s1,s2⟩:=hW;go_simp) hHeld ?_;refine tkn 5 (.int .i64 t) rfl (by kernel_rfl) (fun _ _ _ h=>h) (fun W hW=>by kernel_rfl) hHeld ?_
     refine tkn 6 (.bool false) rfl (by kernel_rfl) (fun _ _ _ h=>h) (fun W hW=>by go_simp) hHeld ?_;refine tkn 7 (.bool false) rfl (by kernel_rfl) (fun _ _ _ h=>h) (fun W hW=>by kernel_rfl) hHeld ?_;refine tkn 8 (.bool false) rfl (by kernel_rfl) (fun _ _ _ h=>h) (fun W hW=>by kernel_rfl) hHeld ?_;refine tkn 9 (.pointer (some ⟨w1.heap.size,1,none⟩)) rfl (by kernel_rfl) (fun _ _ _ h=>h) (fun W hW=>by kernel_rfl) hHeld ?_;refine tkn 10 (.slice ao r.out.length co) rfl (by kernel_rfl) (fun _ _ _ h=>h) (fun W hW=>by obtain ⟨s0,s1,s2⟩:=hW;go_simp) hHeld ?_;refine tkn 11 (.int .i64 r.out.length) rfl (by kernel_rfl) (fun _ _ _ h=>h) (fun W hW=>by go_simp) hHeld ?_;refine tkn 12 (.pointer (some ⟨w2.heap.size,1,none⟩)) rfl (by kernel_rfl) (fun _ _ _ h=>h) (fun W hW=>by kernel_rfl) hHeld ?_;refine tkn 13 (.slice bo q.out.length bc) rfl (by kernel_rfl) (fun _ _ _ h=>h) (fun W hW=>by obtain ⟨s0,s1,s2⟩:=hW;go_simp) hHeld ?_
     refine tkn 14 (.int .i64 q.out.length) rfl (by kernel_rfl) (fun _ _ _ h=>h) (fun W hW=>by go_simp) hHeld ?_;refine tkn 15 (.bool false) rfl (by kernel_rfl) (fun _ _ _ h=>h) (fun W hW=>by go_simp) hHeld ?_;refine tkn 16 (.bool false) rfl (by kernel_rfl) (fun _ _ _ h=>h) (fun W hW=>by kernel_rfl) hHeld ?_;refine tkn 17 (.bool false) rfl (by kernel_rfl) (fun _ _ _ h=>h) (fun W hW=>by kernel_rfl) hHeld ?_;refine tkn 18 (.pointer (some ⟨w1.heap.size,1,none⟩)) rfl (by kernel_rfl) (fun _ _ _ h=>h) (fun W hW=>by kernel_rfl) hHeld ?_;refine tkn 19 (.slice ao r.out.length co) rfl (by kernel_rfl) (fun _ _ _ h=>h) (fun W hW=>by obtain ⟨s0,s1,s2⟩:=hW;go_simp) hHeld ?_;refine tkn 20 (.pointer (some ⟨w2.heap.size,1,none⟩)) rfl (by kernel_rfl) (fun _ _ _ h=>h) (fun W hW=>by kernel_rfl) hHeld ?_;refine tkn 21 (.slice bo q.out.length bc) rfl (by kernel_rfl) (fun _ _ _ h=>h) (fun W hW=>by obtain ⟨s0,s1,s2⟩:=hW;go_simp) hHeld ?_
     refine tkn 22 (.pointer (some ⟨w1.heap.size,1,none⟩)) rfl (by kernel_rfl) (fun _ _ _ h=>h) (fun W hW=>by kernel_rfl) hHeld ?_;refine tkn 23 (.slice ao r.out.length co) rfl (by kernel_rfl) (fun _ _ _ h=>h) (fun W hW=>by obtain ⟨s0,s1,s2⟩:=hW;go_simp) hHeld ?_;refine tkn 24 (.int .i64 r.out.length) rfl (by kernel_rfl) (fun _ _ _ h=>h) (fun W hW=>by go_simp) hHeld ?_;refine tkn 25 (.slice bo r.out.length bc) rfl (by kernel_rfl) (fun _ _ _ h=>h) (fun W hW=>by go_simp) hHeld ?_;refine wpAnyH_ready (rs:=[26]) (by kernel_rfl) (by simp) ?_;refine AllReadyH.cons rfl (fun Kq hK=>?_) AllReadyH.nil;go_simp
     go_wp2_with (go_at_call 28;with_reducible refine HSi.out.mono ?_;rintro e w' ⟨rfl,m3,rfl⟩)
     refine hK.out _ _ (hS1 m3) (fun hHeld=>?_);clear hK Kq;refine tkn 27 (.bool false) rfl (by kernel_rfl) (fun _ _ _ h=>h) (fun W hW=>by kernel_rfl) hHeld ?_;refine tkn 28 (.bool false) rfl (by kernel_rfl) (fun _ _ _ h=>h) (fun W hW=>by kernel_rfl) hHeld ?_;refine wpAnyH_done (by kernel_rfl) ?_ _;clear hHeld hS0 hS1 p1 p3 z1;go_wp2_with fail;refine (ze3 _).mono ?_;rintro e w5 ⟨rfl,hb5⟩;have hbk:Below W3.heap.size W3 w5:=thenB (bd W3 _) hb5;have HB5:=hid (thenB HBb.out hbk);have HX5:=hid (zaz HX2.out hbk);have HY5:=hid (zaz HY2.out hbk);have HN5:=hid (And.intro (HN2.out.1.later hbk) (HN2.out.2.later hbk));have HM5:=hid (And.intro (HM2.out.1.later hbk) (HM2.out.2.later hbk));clear hb5 hbk HX2 HY2 HN2 HM2 HSi;obtain ⟨p0,p1,p2,p3,pz,pf⟩:=za1 HX5.out
     by_cases h3:r.end_=3
     . rw [h3] at p0
       clear h3;go_wp2_with fail
       go_returns
       exact ⟨rfl,HB5.out⟩
     . obtain rfl:q=r:=HEq.out.resolve_left h3
       have h3b:(q.end_ == 3)=false:=by simpa using h3
       have h512:q.data.length<=512:=by have:=HQ.out.2;omega
       obtain ⟨z0,z1,z2,z3,zz,zf⟩:=za1 HY5.out;have HSr2:=hid (zew q.end_ q.ticks ao bo ad dd co bc cd de q.out q.data w5 HN5.out.1 HM5.out.1 HN5.out.2 HM5.out.2 (by omega) (by omega));clear h3 HEq HPr;go_wp2_with fail
       with_reducible refine HSr2.out.mono ?_
       rintro e w6 ⟨rfl,hb6⟩;have HB6:=hid (thenB HB5.out hb6);clear hb6;go_wp2_with fail
       go_returns
       exact ⟨rfl,HB6.out⟩
 . have HR1:=HRun.out ticks w (Below.refl _ _)
   have hb1:(errS l inp ticks != 0)=true:=by simp [hE]
   have HR:=hid HR1;clear HR1 hE;generalize errS l inp ticks=er at *;generalize ansS l inp ticks=r at *;go_enter Tryz.func6,Tryz.ntmps6;go_wp2_with fail;refine HR.out.mono ?_;rintro e w1 ⟨hbb,v1,rfl,ao,co,ad,cd,rfl, -, -, -⟩;have HB1:=hid hbb;clear hbb;go_wp2_with fail;refine (ze3 _).mono ?_;rintro e w2 ⟨rfl,hb2⟩;have HB2:=hid (thenB (thenB HB1.out (al1 w1 _)) hb2);clear hb2;go_wp2_with fail
   go_returns
   exact ⟨rfl,HB2.out⟩
end Go.Proofs.YtndkhgakfodldaaGreatDoor
