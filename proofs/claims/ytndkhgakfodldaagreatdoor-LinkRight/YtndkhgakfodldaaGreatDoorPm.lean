import Derived.Test.YtndkhgakfodldaaGreatDoorPj
import Derived.Deep.DeepCutAuto
namespace Go.Proofs.YtndkhgakfodldaaGreatDoor
set_option maxRecDepth 100000
set_option maxHeartbeats 8000000
open Go.RowKit Go.Shelf
structure FSt (R:Nat) (a:OA) (cap:Nat) (ts:List Tk) (w ws:World) (C:Nat) (T:TypeId) (Z:Obj) (cs:Array Value) (wr:World) (l:List Tk):Prop where
 rd:Rd R a cap ts wr l
 ke:Keeps R w wr
 zb:wr.heap[w.heap.size]? = some Z
 cb:wr.heap[C]? = some (.cells cs T (0,0))
 mv:zad ws (C<·) wr (C<·)
 hR:R<w.heap.size
 hC:w.heap.size<C
 hs:C<ws.heap.size
 r0:∃ l0,Rd R a cap ts w l0
section
variable {R cap C:Nat} {a:OA} {ts l l':List Tk} {w ws wr w':World} {T:TypeId} {Z:Obj} {cs:Array Value}
theorem FSt.keeps (h:FSt R a cap ts w ws C T Z cs wr l) (hk:Keeps R wr w') (hr:Rd R a cap ts w' l'):FSt R a cap ts w ws C T Z cs w' l':=
 have h1:=h.hR;have h2:=h.hC
 ⟨hr,h.ke.trans hk,(hk.block _ (lt_of_heap h.zb) (by omega)).trans h.zb,(hk.block _ (lt_of_heap h.cb) (by omega)).trans h.cb,h.mv.keeps hk (fun b _ hb=>by omega),h.hR,h.hC,h.hs,h.r0⟩
theorem FSt.later (h:FSt R a cap ts w ws C T Z cs wr l) (hb:qb wr w'):FSt R a cap ts w ws C T Z cs w' l:=h.keeps (Keeps.of_below hb R) (h.rd.later hb)
theorem FSt.alloc (h:FSt R a cap ts w ws C T Z cs wr l) (o:Obj):FSt R a cap ts w ws C T Z cs (wr.alloc o) l:=h.later ((Below.refl _ _).alloc (vaa _) o)
theorem FSt.drew (h:FSt R a cap ts w ws C T Z cs wr l):FSt R a cap ts w ws C T Z cs wr.drew l:=h.keeps (Keeps.refl R wr).drew h.rd.drew
theorem FSt.put (h:FSt R a cap ts w ws C T Z cs wr l) (i:Nat) (u:Value):FSt R a cap ts w ws C T Z (cs.setIfInBounds i u) (wr.setCell (qa C i) u) l:=by
 obtain ⟨l0,h0⟩:=h.r0;have h2:=h.hC;exact ⟨h.rd.setAbove h0 (by show w.heap.size<=C;omega) u,h.ke.set (by show w.heap.size<=C;omega) u,(heap_set_ne (by show w.heap.size≠C;omega) u).trans h.zb,heap_set h.cb u,h.mv.set (fun b _ hb=>by show b≠C;omega) u,h.hR,h.hC,h.hs,h.r0⟩
theorem FSt.belowB {base:Nat} (h:FSt R a cap ts w ws C T Z cs wr l) (hb:Below base wr w') (AO:ws.heap.size<=base):FSt R a cap ts w ws C T Z cs w' l:=by
 obtain ⟨l0,h0⟩:=h.r0;have h2:=h.hC;have h3:=h.hs;have AY:Below w.heap.size wr w':=hb.mono (by omega);exact ⟨h.rd.belowOf h0 AY,h.ke.belowOf AY,(hb.block _ (by omega)).trans h.zb,(hb.block _ (by omega)).trans h.cb,⟨vbc h.mv.1 hb.size,fun b A6 Ab=>⟨Ab,(hb.block b (by omega)).trans (h.mv.2 b A6 Ab).2⟩⟩,h.hR,h.hC,h.hs,h.r0⟩
theorem FSt.restart (h:FSt R a cap ts w ws C T Z cs wr l):FSt R a cap ts w wr C T Z cs wr l:=
 ⟨h.rd,h.ke,h.zb,h.cb,zad.refl _ _,h.hR,h.hC,lt_of_heap h.cb,h.r0⟩
theorem FSt.at (h:FSt R a cap ts w ws C T Z cs wr l) {n lo:Nat} {ad:OA} {ds:List D} (k:EAt ws (lo<=·) ad n ds) (CP:C<lo):EAt wr (C<·) ad n ds:=
 k.moves ⟨h.mv.1,fun b h1 h2=>⟨vah CP h2,(h.mv.2 b h1 (vah CP h2)).2⟩⟩
theorem FSt.at' (h:FSt R a cap ts w ws C T Z cs wr l) {n:Nat} {ad:OA} {ds:List D} (k:EAt ws (C<·) ad n ds):EAt wr (C<·) ad n ds:=k.moves h.mv
end
def z5k (A:Nat->Prop) (p:Pr) (w:World) (v:Value):Prop:=∃ a1 c1 a2 c2 a3 c3,v = .agg #[.string p.name,.bool p.pub,.slice a1 p.params.length c1,.slice a2 p.locals.length c2,.slice a3 p.body.length c3]/\p.name.size<=maxLen/\EAt w A a1 p.params.length (zaj p.params)/\EAt w A a2 p.locals.length (zaj p.locals)/\EAt w A a3 p.body.length (zbp p.body)
abbrev zhx:Obj:=.cells #[.string ⟨#[]⟩,.bool false,qs,qs,qs] 118 (0,0)
theorem zd5:Enters Tryz.prog 196:=enters_of Tryz.func196 (by kernel_rfl) rfl
theorem z7n {R cap C:Nat} {a:OA} {ts l':List Tk} {w ws wr:World} {r:Option (Pr × List Tk)} {p:Pr} {a1 a2 a3:OA} {c1 c2 c3:Nat} (h:FSt R a cap ts w ws C 118 zhx #[.string p.name,.bool p.pub,.slice a1 p.params.length c1,.slice a2 p.locals.length c2,.slice a3 p.body.length c3] wr l') (hr:r=some (p,l')) (hn:p.name.size<=maxLen) (h1:EAt wr (C<·) a1 p.params.length (zaj p.params)) (h2:EAt wr (C<·) a2 p.locals.length (zaj p.locals)) (h3:EAt wr (C<·) a3 p.body.length (zbp p.body)) :
 zd4 R a cap ts w r (z5k (w.heap.size<=·)) (.returned (.agg #[.string p.name,.bool p.pub,.slice a1 p.params.length c1,.slice a2 p.locals.length c2,.slice a3 p.body.length c3])) (set5 wr w.heap.size (.string p.name) (.bool p.pub) (.slice a1 p.params.length c1) (.slice a2 p.locals.length c2) (.slice a3 p.body.length c3)):=by
 obtain ⟨l0,h0⟩:=h.r0;have hC:=h.hC
 have hm:zad wr (C<·) (set5 wr w.heap.size (.string p.name) (.bool p.pub) (.slice a1 p.params.length c1) (.slice a2 p.locals.length c2) (.slice a3 p.body.length c3)) (w.heap.size<=·):=
  (((zad.refl wr (C<·)).set5 (b:=w.heap.size) (fun b _ hb=>by omega) _ _ _ _ _)).trans ⟨vaa _,fun b _ hb=>⟨by omega,rfl⟩⟩
 exact ⟨h.ke.set5 (vaa _) _ _ _ _ _,Or.inr ⟨p,l',_,hr,rfl,⟨a1,c1,a2,c2,a3,c3,rfl,hn,h1.moves hm,h2.moves hm,h3.moves hm⟩,h.rd.set5 h0 (vaa _) _ _ _ _ _⟩⟩
theorem zuv (R cap:Nat) (a:OA) (ts l:List Tk) (w:World) (h:Rd R a cap ts w l) :
 qc 200 #[pq R 0] w (zd4 R a cap ts w (ze8 l) (z5k (w.heap.size<=·))):=by
 have HR:Hid (Rd R a cap ts w l):=h;have Cz:=h.lt
 have GP:l.length<=4096:=by
  obtain ⟨k,_,rfl,_⟩:=h.idx;have:=h.len
  rw [vbv];omega
 have LC:=zsv l;clear h;go_enter Tryz.func200,Tryz.ntmps200;go_wp2_with fail;refine (zos R cap a ts l zcu _ (by decide) (HR.out.alloc _)).mono ?_;rintro e w1 ⟨rfl,RD,KK⟩;have F3:Hid (Rd R a cap ts w1 (zhw l)):=RD;have Fa:Hid (Keeps R w w1):=((Keeps.refl R w).alloc _).trans KK;have An:=KK.size;simp at An;have A7:Hid (w1.heap[w.heap.size]? = some zhx):=(KK.block w.heap.size (by simp) (by omega)).trans (heap_newP _ _);clear RD KK;generalize Bu:skB l zcu=pub at *;have JS:=hid Bu;clear Bu;go_wp2_with fail
 obtain ⟨w2,BJ⟩:∃ w2,w2=w1.alloc (kzK ⟨#[]⟩ pub none 0 0 none 0 0 none 0 0):=⟨_,rfl⟩
 have AA:w2.heap.size=w1.heap.size+1:=by rw [BJ];simp
 have Eh:Hid (FSt R a cap ts w w2 w1.heap.size 118 zhx #[.string ⟨#[]⟩,.bool pub,qs,qs,qs] w2 (zhw l)):=
  ⟨by rw [BJ];exact F3.out.alloc _,by rw [BJ];exact Fa.out.alloc _,by rw [BJ];exact zab A7.out,by rw [BJ];exact heap_newP _ _,zad.refl _ _,Cz,by omega,by omega,l,HR.out⟩
 rw [← BJ];clear BJ F3 Fa A7;generalize hC:w1.heap.size=C at *;clear hC w1;refine (zfk R cap _ a ts (zhw l) z4h w2 AA.symm Eh.out.rd (by decide)).mono ?_;rintro e w3 ⟨KK,⟨s1,rfl⟩ | ⟨s1,rfl,RD⟩⟩
 . exact ⟨rfl,Eh.out.ke.trans KK,Or.inl ⟨by unfold ze8;rw [if_neg (by simp [s1])],rfl⟩⟩
 have Bp:=hid (Eh.out.keeps KK RD);have Bw:=KK.size;have Ci:=zah (by decide) s1;clear RD KK Eh;go_wp2_with fail;refine (zbv R cap a ts (zhw l).tail w3 Bp.out.rd).mono ?_;rintro e w4 ⟨KK,⟨hn,rfl⟩ | ⟨nm,l4,v,hn,rfl,⟨rfl,B5⟩,RD⟩⟩
 . exact ⟨rfl,Bp.out.ke.trans KK,Or.inl ⟨by unfold ze8;rw [if_pos s1,hn],rfl⟩⟩
 have CH:Hid (ze8 l=if skB l4 tLp then (match zhc l4.tail with
  | none=>none
  | some (ps,l2)=>(match zcq zd6 (l2.length+1) [] l2 with
    | none=>none
    | some (ls,l3)=>(match pB l3 with | none=>none | some (b,l4)=>some (⟨nm,pub,ps,ls,b⟩,l4)))) else none):=by show ze8 l=_;unfold ze8;rw [if_pos s1,hn,JS.out]<;>rfl
 have DD:=hid (Bp.out.keeps KK RD);have CX:=KK.size;have EN:=zbk hn;clear RD KK Bp hn s1 JS;have Eg:=hid (DD.out.put 0 (.string nm))
 have C2:(w4.setCell (qa C 0) (.string nm)).heap.size=w4.heap.size:=by simp only [vaq]
 obtain ⟨h0,h1,h2,h3,h4,h5⟩:=zaa DD.out.cb;have LB:C<w4.heap.size:=lt_of_heap DD.out.cb;go_wp2_with fail;generalize w4.setCell (qa C 0) (.string nm)=w5 at *;clear h0 h1 h2 h3 h4 h5 DD;refine (zfk R cap _ a ts l4 tLp w5 (by omega) Eg.out.rd (by decide)).mono ?_;rintro e w6 ⟨KK,⟨s1,rfl⟩ | ⟨s1,rfl,RD⟩⟩
 . exact ⟨rfl,Eg.out.ke.trans KK,Or.inl ⟨by rw [CH.out,if_neg (by simp [s1])],rfl⟩⟩
 have Dg:Hid (ze8 l=(match zhc l4.tail with
  | none=>none
  | some (ps,l2)=>(match zcq zd6 (l2.length+1) [] l2 with
    | none=>none
    | some (ls,l3)=>(match pB l3 with | none=>none | some (b,l4)=>some (⟨nm,pub,ps,ls,b⟩,l4))))):=by show ze8 l=_;rw [CH.out,if_pos s1]
 have Gz:Hid (FSt R a cap ts w w2 C 118 zhx #[.string nm,.bool pub,qs,qs,qs] w6 l4.tail):=Eg.out.keeps KK RD;have GC:=KK.size;have FN:=zah (by decide) s1;clear RD KK Eg s1 CH;go_wp2_with fail;refine (zos R cap a ts l4.tail tRp w6 (by decide) Gz.out.rd).mono ?_;rintro e w7 ⟨rfl,RD,KK⟩;have BQ:=hid (Gz.out.keeps KK RD);have Ii:=KK.size;clear RD KK Gz
 go_upto_if 18 with fail
 go_cut [] (fun wc=>∃ (ps:List ByteArray) (l8:List Tk) (v:Value),Hid (zhc l4.tail=some (ps,l8))/\l8.length<l.length/\Hid (FSt R a cap ts w w2 C 118 zhx #[.string nm,.bool pub,v,qs,qs] wc l8)/\Hid (Row w2.heap.size 9 1 wc v ps.length (zaj ps)))
 case first =>
  generalize Od:l4.tail=l6 at *
  have LU:l6.length<l.length:=by omega
  cases hs:skB l6 tRp with
  | true=>
    rw [hs] at BQ;go_wp2_with fail;go_meet;exact ⟨[],l6.tail,qs,(by show _=_;unfold zhc;rw [if_pos hs]),(by simp;omega),BQ,Row.nil _ _ _ _⟩
  | false =>
    rw [hs] at BQ;have Ki:Hid (FSt R a cap ts w w2 C 118 zhx #[.string nm,.bool pub,qs,qs,qs] w7 l6):=BQ;clear BQ;have BQ:=Ki;clear Ki;obtain ⟨h0,h1,hvw7,h3,h4,h5⟩:=zaa BQ.out.cb;have Hj:C<w7.heap.size:=lt_of_heap BQ.out.cb;have Gu:Hid (Row w2.heap.size 9 1 w7 (qs) 0 (zaj [])):=Row.nil _ _ _ _
    have EX:Hid (∀ {b:Nat} {W:World},b<W.heap.size->False->w7.heap.size<=W.heap.size->zes w2.heap.size (qs) b):=fun _ h _=>h.elim
    go_wp2_with fail
    cases hx:zde l6 with
    | none=>
      have HE:Hid (∀ w',Rd R a cap ts w' l6->qc 196 #[pq R 0] w' fun e Az=>e = .panicked zag/\Keeps R w' Az):=fun w' h'=>by
       refine (zbv R cap a ts _ w' h').mono ?_;rintro e Az ⟨hk,⟨_,rfl⟩ | ⟨_,_,_,h,_⟩⟩
       . exact ⟨rfl,hk⟩
       . rw [hx] at h;cases h
      have HP:Hid (ze8 l=none):=by show _=_;rw [Dg.out];unfold zhc;rw [if_neg (by simp [hs]),hx]
      clear hx;go_wp2_with fail;refine wp_region_any (by kernel_rfl) ?_
      change wpAny _ _ _ _ _ _ _ (World.drew _)
      refine wpAny_take (i:=2) (v:=pq R 0) rfl (by kernel_rfl) (by kernel_rfl) (by kernel_rfl) (fun c a w h=>h) (Or.inl ⟨by rfl,fun w=>by go_simp⟩) ?_;refine wpAny_take (i:=0) (v:=pq C 2) rfl (by kernel_rfl) (by kernel_rfl) (by kernel_rfl) (fun c a w h=>h) (Or.inl ⟨by rfl,fun w=>by go_simp⟩) ?_;refine wpAny_ready (rs:=[1,3]) (by kernel_rfl) (by simp) ?_;refine veh rfl (fun K hK=>?_) (veh rfl (fun K hK=>?_) vej)
      . go_simp
        refine hK _ _ ?_;clear hK K;refine wpAny_ready (rs:=[3]) (by kernel_rfl) (by simp) ?_;refine veh rfl (fun K hK=>?_) vej;refine zbf (by rfl) 196 _ _ (by rfl) zd5 _ (by rfl) zag (HE.out _ BQ.out.rd.drew) ?_;intro w8 hk8;exact ⟨rfl,BQ.out.ke.drew.trans hk8,Or.inl ⟨HP.out,rfl⟩⟩
      . refine zbf (by rfl) 196 _ _ (by rfl) zd5 _ (by rfl) zag (HE.out _ BQ.out.rd.drew) ?_
        intro w8 hk8;exact ⟨rfl,BQ.out.ke.drew.trans hk8,Or.inl ⟨HP.out,rfl⟩⟩
    | some r =>
      obtain ⟨y,ly⟩:=r
      have HE:Hid (∀ w',Rd R a cap ts w' l6->qc 196 #[pq R 0] w' fun e Az=>∃ u,e = .returned u/\(Keeps R w' Az/\(u = .string y/\y.size<=maxLen)/\Rd R a cap ts Az ly)):=fun w' h'=>by
       refine (zbv R cap a ts _ w' h').mono ?_;rintro e Az ⟨hk,⟨h,_⟩ | ⟨y',l',u,h,rfl,hr,hd⟩⟩
       . rw [hx] at h;cases h
       . rw [hx] at h
         obtain ⟨rfl,rfl⟩:=vao (vab h);exact ⟨u,rfl,hk,hr,hd⟩
      have Dy:Hid (zhc l6=zcp (ly.length+1) [y] ly):=by show _=_;unfold zhc;rw [if_neg (by simp [hs]),hx]
      have Is:=zbk hx;clear hx;go_wp2_with fail
      go_region_law (first
       | (refine zb9 (by rfl) 196 _ _ (by rfl) zd5 _ (by rfl) (HE.out _ BQ.out.rd.drew) ?_
          rintro u8 w8 ⟨AN,⟨rfl,hy8⟩,Cc⟩;have Dj:w7.heap.size<=w8.heap.size:=AN.size;have Cv:=hid (BQ.out.drew.keeps AN Cc);have Hd:w8.cell? (qa C 2)=some (qs):=(AN.cell (show C<w7.heap.size from Hj) (by omega)).trans hvw7
          have Il:C<w8.heap.size:=by omega
          have CT:Hid (Row w2.heap.size 9 1 w8 (qs) 0 (zaj [])):=(Gu.out.keeps (Keeps.refl R w7).drew (by omega)).keeps AN (by omega))
       | (refine zbj (by rfl) _ _ 22 (by rfl) w2.heap.size 9 _ 1 16 Tryz.underlying22 Tryz.infoP9 rfl (by decide) w8 _ 0 (zaj []) [.str y] (by rfl) CT.out #[.string y] _ rfl (by rfl) rfl (fun _=>False) (.cons (zw9 hy8) .nil) (fun b hb hA=>?_) (by omega) (by decide) (by omega) ?_
          focus (exact EX.out hb hA Dj)
          intro g9 c9 w9 Dz B7 ED;obtain ⟨k0,k1,k2,k3,k4,k5⟩:=zaa (Cv.out.belowB B7 (by omega)).cb
          have J0:C<w9.heap.size:=by omega
          have CI:=hid ((Cv.out.belowB B7 (by omega)).put 2 (.slice (some (qa g9 0)) (0+1) c9))
          have BW:=hid (Dz.set (p:=(qa C 2)) (by show C<w2.heap.size;omega) (.slice (some (qa g9 0)) (0+1) c9))))
      all_goals
       clear HE;go_wp2_with fail
       go_loopw [] (fun wr=>∃ (g:Nat) (A5:List ByteArray) (l':List Tk) (v:Value),Hid (zhc l6=zcp g A5 l')/\l'.length+1<=g/\A5.length+l'.length<=l.length/\FSt R a cap ts w w2 C 118 zhx #[.string nm,.bool pub,v,qs,qs] wr l'/\Row w2.heap.size 9 1 wr v A5.length (zaj A5)) (fun wr=>zhv R ts.length wr)
       case atStart=>exact ⟨_,[y],ly,_,Dy,vaa _,by simp;omega,CI.out,BW.out⟩
       case round=>
        obtain ⟨g,A5,l',v,HG,hg,hacc,hF,Aa⟩:=hrel;have HF:=hid hF;have HO:=hid Aa;have Ej:Hid (zhv R ts.length wr=l'.length):=hF.rd.left
        obtain ⟨g,rfl⟩:∃ g',g=g'+1:=⟨g - 1,by omega⟩
        clear hF Aa;go_wp2_with fail;refine (z7j R cap _ a ts l' z06 tRp _ (by simp) HF.out.rd (by decide) (by decide)).mono ?_;rintro e w3 ⟨Am,⟨h1,h2,rfl⟩ | ⟨h1,rfl,Aq⟩ | ⟨h1,h2,rfl,Aq⟩⟩
        . exact ⟨rfl,HF.out.ke.trans Am,Or.inl ⟨by rw [Dg.out,HG.out];unfold zcp;rw [if_neg (by simp [h1]),if_neg (by simp [h2])],rfl⟩⟩
        . have Ci:=zah (by decide) h1
          have Bw:=Am.size;have Bp:=hid (HF.out.keeps Am Aq);have CU:=hid (HO.out.keeps Am (by omega));obtain ⟨h0,D6,hvw3,h3,h4,h5⟩:=zaa Bp.out.cb;have Hk:C<w3.heap.size:=lt_of_heap Bp.out.cb
          have EY:Hid (∀ {b:Nat} {W:World},b<W.heap.size->False->w3.heap.size<=W.heap.size->zes w2.heap.size v b):=fun _ h _=>h.elim
          clear Am Aq HF HO;go_wp2_with fail
          cases hx:zde l'.tail with
          | none=>
            have HE:Hid (∀ w',Rd R a cap ts w' l'.tail->qc 196 #[pq R 0] w' fun e Az=>e = .panicked zag/\Keeps R w' Az):=fun w' h'=>by
             refine (zbv R cap a ts _ w' h').mono ?_;rintro e Az ⟨hk,⟨_,rfl⟩ | ⟨_,_,_,h,_⟩⟩
             . exact ⟨rfl,hk⟩
             . rw [hx] at h;cases h
            have HP:Hid (ze8 l=none):=by show _=_;rw [Dg.out,HG.out];unfold zcp;rw [if_pos h1,hx]
            clear hx;go_wp2_with fail;refine wp_region_any (by kernel_rfl) ?_
            change wpAny _ _ _ _ _ _ _ (World.drew _)
            refine wpAny_take (i:=2) (v:=pq R 0) rfl (by kernel_rfl) (by kernel_rfl) (by kernel_rfl) (fun c a w h=>h) (Or.inl ⟨by rfl,fun w=>by go_simp⟩) ?_;refine wpAny_take (i:=0) (v:=pq C 2) rfl (by kernel_rfl) (by kernel_rfl) (by kernel_rfl) (fun c a w h=>h) (Or.inl ⟨by rfl,fun w=>by go_simp⟩) ?_;refine wpAny_ready (rs:=[1,3]) (by kernel_rfl) (by simp) ?_;refine veh rfl (fun K hK=>?_) (veh rfl (fun K hK=>?_) vej)
            . go_simp
              refine hK _ _ ?_;clear hK K;refine wpAny_ready (rs:=[3]) (by kernel_rfl) (by simp) ?_;refine veh rfl (fun K hK=>?_) vej;refine zbf (by rfl) 196 _ _ (by rfl) zd5 _ (by rfl) zag (HE.out _ Bp.out.rd.drew) ?_;intro w8 hk8;exact ⟨rfl,Bp.out.ke.drew.trans hk8,Or.inl ⟨HP.out,rfl⟩⟩
            . refine zbf (by rfl) 196 _ _ (by rfl) zd5 _ (by rfl) zag (HE.out _ Bp.out.rd.drew) ?_
              intro w8 hk8;exact ⟨rfl,Bp.out.ke.drew.trans hk8,Or.inl ⟨HP.out,rfl⟩⟩
          | some r=>
            obtain ⟨y,ly⟩:=r
            have HE:Hid (∀ w',Rd R a cap ts w' l'.tail->qc 196 #[pq R 0] w' fun e Az=>∃ u,e = .returned u/\(Keeps R w' Az/\(u = .string y/\y.size<=maxLen)/\Rd R a cap ts Az ly)):=fun w' h'=>by
             refine (zbv R cap a ts _ w' h').mono ?_;rintro e Az ⟨hk,⟨h,_⟩ | ⟨y',l',u,h,rfl,hr,hd⟩⟩
             . rw [hx] at h;cases h
             . rw [hx] at h
               obtain ⟨rfl,rfl⟩:=vao (vab h);exact ⟨u,rfl,hk,hr,hd⟩
            have Dy:Hid (zhc l6=zcp g (A5++[y]) ly):=by show _=_;rw [HG.out];unfold zcp;rw [if_pos h1,hx];cases g<;>rfl
            have Is:=zbk hx;have E8:=Ej;clear hx;go_wp2_with fail
            go_region_law (first
             | (refine zb9 (by rfl) 196 _ _ (by rfl) zd5 _ (by rfl) (HE.out _ Bp.out.rd.drew) ?_
                rintro u8 w8 ⟨AN,⟨rfl,hy8⟩,Cc⟩;have Dj:w3.heap.size<=w8.heap.size:=AN.size;have Cv:=hid (Bp.out.drew.keeps AN Cc);have Hd:w8.cell? (qa C 2)=some v:=(AN.cell (show C<w3.heap.size from Hk) (by omega)).trans hvw3
                have Il:C<w8.heap.size:=by omega
                have CT:Hid (Row w2.heap.size 9 1 w8 v A5.length (zaj A5)):=(CU.out.keeps (Keeps.refl R w3).drew (by omega)).keeps AN (by omega))
             | (refine zbj (by rfl) _ _ 22 (by rfl) w2.heap.size 9 _ 1 16 Tryz.underlying22 Tryz.infoP9 rfl (by decide) w8 _ A5.length (zaj A5) [.str y] (by rfl) CT.out #[.string y] _ rfl (by rfl) rfl (fun _=>False) (.cons (zw9 hy8) .nil) (fun b hb hA=>?_) (by omega) (by decide) (by omega) ?_
                focus (exact EY.out hb hA Dj)
                intro g9 c9 w9 Dz B7 ED;obtain ⟨k0,k1,k2,k3,k4,k5⟩:=zaa (Cv.out.belowB B7 (by omega)).cb
                have J0:C<w9.heap.size:=by omega
                have CI:=hid ((Cv.out.belowB B7 (by omega)).put 2 (.slice (some (qa g9 0)) (A5.length+1) c9))
                have BW:=hid (Dz.set (p:=(qa C 2)) (by show C<w2.heap.size;omega) (.slice (some (qa g9 0)) (A5.length+1) c9))))
            all_goals
             clear HE;go_wp2_with fail;go_roundw
             case rel=>exact ⟨g,A5++[y],ly,_,Dy,by omega,by simp;omega,CI.out,by rw [vam];rw [show zaj (A5++[y])=zaj A5++[.str y] from by simp [zaj]];exact BW.out⟩
             case measure=>rw [CI.out.rd.left,Ej.out];omega
        . have Rx:Hid (zhc l6=some (A5,l'.tail)):=by show _=_;rw [HG.out];unfold zcp;rw [if_neg (by simp [h1]),if_pos h2]
          have Bp:=hid (HF.out.keeps Am Aq);have CU:=hid (HO.out.keeps Am (by omega));clear Am Aq HF HO;go_wp2_with fail;go_meet;exact ⟨A5,l'.tail,v,Rx,by simp;omega,Bp,CU⟩
 case rest =>
  obtain ⟨ps,l8,v8,HPp,Qp,Cv,CT⟩:=hcut;obtain ⟨a8,c8,rfl,hps⟩:=CT.out.slice;have KY:=hid hps
  have KZ:Hid (ze8 l=(match zcq zd6 (l8.length+1) [] l8 with
   | none=>none
   | some (ls,l3)=>(match pB l3 with | none=>none | some (b,l4)=>some (⟨nm,pub,ps,ls,b⟩,l4)))):=by show _=_;rw [Dg.out,HPp.out]
  have HW:=hid Cv.out.restart;have SS:C<wc.heap.size:=lt_of_heap Cv.out.cb;have PV:w2.heap.size<=wc.heap.size:=Cv.out.mv.1;clear hps CT Dg HPp BQ Cv;go_wp2_with fail
  go_loopw [] (fun wr=>∃ (g:Nat) (A5:List ByteArray) (l':List Tk) (v:Value),Hid (zcq zd6 (l8.length+1) [] l8=zcq zd6 g A5 l')/\l'.length+1<=g/\A5.length+l'.length<=l.length/\FSt R a cap ts w wc C 118 zhx #[.string nm,.bool pub,.slice a8 ps.length c8,v,qs] wr l'/\Row wc.heap.size 9 1 wr v A5.length (zaj A5)) (fun wr=>zhv R ts.length wr)
  case atStart=>exact ⟨_,[],l8,_,rfl,vaa _,by simp;omega,HW.out,Row.nil _ _ _ _⟩
  case round=>
   obtain ⟨g,A5,l',v,HG,hg,hacc,hF,Aa⟩:=hrel;have HF:=hid hF;have HO:=hid Aa;have Ej:Hid (zhv R ts.length wr=l'.length):=hF.rd.left
   obtain ⟨g,rfl⟩:∃ g',g=g'+1:=⟨g - 1,by omega⟩
   clear hF Aa HW;go_wp2_with fail
   cases hs:skB l' zd6 with
   | true =>
     refine (zbl R cap a ts l' zd6 wr (by decide) HF.out.rd hs).mono ?_;rintro e w3 ⟨rfl,Aq,Am⟩;have Ci:=zah (by decide) hs;have Bw:=Am.size;have Bp:=hid (HF.out.keeps Am Aq);have CU:=hid (HO.out.keeps Am (by omega));obtain ⟨h0,h1,h2,hvw3,h4,h5⟩:=zaa Bp.out.cb;have Hk:C<w3.heap.size:=lt_of_heap Bp.out.cb
     have EY:Hid (∀ {b:Nat} {W:World},b<W.heap.size->False->w3.heap.size<=W.heap.size->zes wc.heap.size v b):=fun _ h _=>h.elim
     have GD:wc.heap.size<=wr.heap.size:=HF.out.mv.1;clear Am Aq HF HO;go_wp2_with fail
     cases hx:zde l'.tail with
     | none=>
       have HE:Hid (∀ w',Rd R a cap ts w' l'.tail->qc 196 #[pq R 0] w' fun e Az=>e = .panicked zag/\Keeps R w' Az):=fun w' h'=>by
        refine (zbv R cap a ts _ w' h').mono ?_;rintro e Az ⟨hk,⟨_,rfl⟩ | ⟨_,_,_,h,_⟩⟩
        . exact ⟨rfl,hk⟩
        . rw [hx] at h;cases h
       have HP:Hid (ze8 l=none):=by show _=_;rw [KZ.out,HG.out];unfold zcq;rw [if_pos hs,hx]
       clear hx;go_wp2_with fail;refine wp_region_any (by kernel_rfl) ?_
       change wpAny _ _ _ _ _ _ _ (World.drew _)
       refine wpAny_take (i:=2) (v:=pq R 0) rfl (by kernel_rfl) (by kernel_rfl) (by kernel_rfl) (fun c a w h=>h) (Or.inl ⟨by rfl,fun w=>by go_simp⟩) ?_;refine wpAny_take (i:=0) (v:=pq C 3) rfl (by kernel_rfl) (by kernel_rfl) (by kernel_rfl) (fun c a w h=>h) (Or.inl ⟨by rfl,fun w=>by go_simp⟩) ?_;refine wpAny_ready (rs:=[1,3]) (by kernel_rfl) (by simp) ?_;refine veh rfl (fun K hK=>?_) (veh rfl (fun K hK=>?_) vej)
       . go_simp
         refine hK _ _ ?_;clear hK K;refine wpAny_ready (rs:=[3]) (by kernel_rfl) (by simp) ?_;refine veh rfl (fun K hK=>?_) vej;refine zbf (by rfl) 196 _ _ (by rfl) zd5 _ (by rfl) zag (HE.out _ Bp.out.rd.drew) ?_;intro w8 hk8;exact ⟨rfl,Bp.out.ke.drew.trans hk8,Or.inl ⟨HP.out,rfl⟩⟩
       . refine zbf (by rfl) 196 _ _ (by rfl) zd5 _ (by rfl) zag (HE.out _ Bp.out.rd.drew) ?_
         intro w8 hk8;exact ⟨rfl,Bp.out.ke.drew.trans hk8,Or.inl ⟨HP.out,rfl⟩⟩
     | some r=>
       obtain ⟨y,ly⟩:=r
       have HE:Hid (∀ w',Rd R a cap ts w' l'.tail->qc 196 #[pq R 0] w' fun e Az=>∃ u,e = .returned u/\(Keeps R w' Az/\(u = .string y/\y.size<=maxLen)/\Rd R a cap ts Az ly)):=fun w' h'=>by
        refine (zbv R cap a ts _ w' h').mono ?_;rintro e Az ⟨hk,⟨h,_⟩ | ⟨y',l',u,h,rfl,hr,hd⟩⟩
        . rw [hx] at h;cases h
        . rw [hx] at h
          obtain ⟨rfl,rfl⟩:=vao (vab h);exact ⟨u,rfl,hk,hr,hd⟩
       have Dy:Hid (zcq zd6 (l8.length+1) [] l8=if skB ly zhj then zcq zd6 g (A5++[y]) ly.tail else none):=by show _=_;rw [HG.out];unfold zcq;rw [if_pos hs,hx];cases g<;>rfl
       have Is:=zbk hx;clear hx;go_wp2_with fail
       go_region_law (first
        | (refine zb9 (by rfl) 196 _ _ (by rfl) zd5 _ (by rfl) (HE.out _ Bp.out.rd.drew) ?_
           rintro u8 w8 ⟨AN,⟨rfl,hy8⟩,Cc⟩;have Dj:w3.heap.size<=w8.heap.size:=AN.size;have Cv:=hid (Bp.out.drew.keeps AN Cc);have Hd:w8.cell? (qa C 3)=some v:=(AN.cell (show C<w3.heap.size from Hk) (by omega)).trans hvw3
           have Il:C<w8.heap.size:=by omega
           have CT:Hid (Row wc.heap.size 9 1 w8 v A5.length (zaj A5)):=(CU.out.keeps (Keeps.refl R w3).drew (by omega)).keeps AN (by omega))
        | (refine zbj (by rfl) _ _ 22 (by rfl) wc.heap.size 9 _ 1 16 Tryz.underlying22 Tryz.infoP9 rfl (by decide) w8 _ A5.length (zaj A5) [.str y] (by rfl) CT.out #[.string y] _ rfl (by rfl) rfl (fun _=>False) (.cons (zw9 hy8) .nil) (fun b hb hA=>?_) (by omega) (by decide) (by omega) ?_
           focus (exact EY.out hb hA Dj)
           intro g9 c9 w9 Dz B7 ED;obtain ⟨k0,k1,k2,k3,k4,k5⟩:=zaa (Cv.out.belowB B7 (by omega)).cb
           have J0:C<w9.heap.size:=by omega
           have CI:=hid ((Cv.out.belowB B7 (by omega)).put 3 (.slice (some (qa g9 0)) (A5.length+1) c9))
           have BW:=hid (Dz.set (p:=(qa C 3)) (by show C<wc.heap.size;omega) (.slice (some (qa g9 0)) (A5.length+1) c9))))
       all_goals
        clear HE;go_wp2_with fail
        have FE:(w9.setCell (qa C 3) (.slice (some (qa g9 0)) (A5.length+1) c9)).heap.size=w9.heap.size:=by simp only [vaq]
        generalize w9.setCell (qa C 3) (.slice (some (qa g9 0)) (A5.length+1) c9)=Di at *;refine (zfk R cap _ a ts ly zhj Di (by omega) CI.out.rd (by decide)).mono ?_;rintro e z1 ⟨ZK,⟨zs,rfl⟩ | ⟨zs,rfl,ZR⟩⟩
        . exact ⟨rfl,CI.out.ke.trans ZK,Or.inl ⟨by rw [KZ.out,Dy.out,if_neg (by simp [zs])],rfl⟩⟩
        have Kf:=hid (CI.out.keeps ZK ZR);have N1:=hid (BW.out.keeps ZK (by omega));have Qg:=zah (by decide) zs
        have MW:Hid (zcq zd6 (l8.length+1) [] l8=zcq zd6 g (A5++[y]) ly.tail):=by show _=_;rw [Dy.out,if_pos zs]
        clear ZK ZR zs Dy CI BW;go_wp2_with fail;go_roundw
        case rel=>exact ⟨g,A5++[y],ly.tail,_,MW,by simp;omega,by simp;omega,Kf.out,by rw [vam];rw [show zaj (A5++[y])=zaj A5++[.str y] from by simp [zaj]];exact N1.out⟩
        case measure=>rw [Kf.out.rd.left,Ej.out];simp;omega
   | false=>
     refine (zb2 R cap a ts l' zd6 wr HF.out.rd hs).mono ?_;rintro e w3 ⟨rfl,Aq,Am⟩;have Bp:=hid (HF.out.keeps Am Aq);have CU:=hid (HO.out.keeps Am (by omega))
     have F4:Hid (ze8 l=(match pB l' with | none=>none | some (b,l4)=>some (⟨nm,pub,ps,A5,b⟩,l4))):=by show _=_;rw [KZ.out,HG.out];unfold zcq;rw [if_neg (by simp [hs])]
     obtain ⟨a3,c3,rfl,hls⟩:=CU.out.slice;have Pa:=hid hls;have GD:wc.heap.size<=wr.heap.size:=HF.out.mv.1;have Bw:=Am.size;clear Am Aq HF HO hs hls KZ HG;go_wp2_with fail;refine (zqt R cap a ts l' w3 Bp.out.rd).mono ?_;rintro e w4 ⟨KK,⟨hn,rfl⟩ | ⟨b,l4,v,hn,rfl,⟨a4,c4,rfl,Aj⟩,RD⟩⟩
     . exact ⟨rfl,Bp.out.ke.trans KK,Or.inl ⟨by rw [F4.out,hn],rfl⟩⟩
     have JU:Hid (ze8 l=some (⟨nm,pub,ps,A5,b⟩,l4)):=by show _=_;rw [F4.out,hn]
     have DD:=hid (Bp.out.keeps KK RD);have CX:=KK.size;have SV:C<w3.heap.size:=lt_of_heap Bp.out.cb;have Eg:Hid (FSt R a cap ts w wc C 118 zhx #[.string nm,.bool pub,.slice a8 ps.length c8,.slice a3 A5.length c3,.slice a4 b.length c4] (w4.setCell (qa C 4) (.slice a4 b.length c4)) l4):=DD.out.put 4 (.slice a4 b.length c4);have LK:zad w3 (C<·) (w4.setCell (qa C 4) (.slice a4 b.length c4)) (C<·):=((zad.refl w3 _).keeps KK (fun k _ hk=>by have:=Bp.out.hC;omega)).set (fun k _ hk=>by show k≠C;omega) _;have H1:Hid (EAt (w4.setCell (qa C 4) (.slice a4 b.length c4)) (C<·) a8 ps.length (zaj ps)):=Eg.out.at KY.out (by omega);have H2:Hid (EAt (w4.setCell (qa C 4) (.slice a4 b.length c4)) (C<·) a3 A5.length (zaj A5)):=Pa.out.moves ⟨LK.1,fun k h1 h2=>⟨by omega,(LK.2 k h1 (by omega)).2⟩⟩;have H3:Hid (EAt (w4.setCell (qa C 4) (.slice a4 b.length c4)) (C<·) a4 b.length (zbp b)):=Aj.moves (((zad.refl w4 _).set (fun k _ hk=>by show k≠C;omega) _).trans ⟨vaa _,fun k _ hk=>⟨by omega,rfl⟩⟩)
     have I4:=hid (z7n (p:=⟨nm,pub,ps,A5,b⟩) Eg.out JU.out B5 H1.out H2.out H3.out);obtain ⟨h0,h1,h2,h3,h4,h5⟩:=zaa DD.out.cb;obtain ⟨g0,g1,g2,g3,g4,g5⟩:=zaa DD.out.zb
     have Ak:w.heap.size≠C:=by have:=DD.out.hC;omega
     clear KK RD hn Bp DD Eg Aj LK Pa H1 H2 H3 F4 JU;go_wp2_with fail;refine bodyPost_ret (v:=.agg #[.string nm,.bool pub,.slice a8 ps.length c8,.slice a3 A5.length c3,.slice a4 b.length c4]) (by simp [results,Tryz.results200,go_sem,g0,g1,g2,g3,g4]) rfl I4.out
set_option maxHeartbeats 16000000
def pM3 (n:ByteArray) (us:List ByteArray) (ds:List De) (l3:List Tk):Option (Mo × List Tk):=match zfa (l3.length+1) [] l3 with
 | none=>none
 | some (ps,l4)=>(match pB l4 with
   | none=>none
   | some (b,l5)=>if skB l5 tRb then some (⟨n,us,ds,ps,b⟩,l5.tail) else none)
def pM2 (n:ByteArray) (us:List ByteArray) (l2:List Tk):Option (Mo × List Tk):=match ze9 (l2.length+1) [] l2 with
 | none=>none
 | some (ds,l3)=>pM3 n us ds l3
def pM1 (n:ByteArray) (l1:List Tk):Option (Mo × List Tk):=match zcq zt0 (l1.length+1) [] l1 with
 | none=>none
 | some (us,l2)=>pM2 n us l2
theorem zv9 (l:List Tk):zcc l=if skB l zn2 then (match zde l.tail with | none=>none | some (n,l1)=>if skB l1 tLb then pM1 n l1.tail else none) else none:=by
 unfold zcc pM1 pM2 pM3;rfl
def zov (A:Nat->Prop) (m:Mo) (w:World) (v:Value):Prop:=∃ a1 c1 a2 c2 a3 c3 a4 c4,v = .agg #[.string m.name,.slice a1 m.uses.length c1,.slice a2 m.decls.length c2,.slice a3 m.procs.length c3,.slice a4 m.main.length c4]/\m.name.size<=maxLen/\EAt w A a1 m.uses.length (zaj m.uses)/\EAt w A a2 m.decls.length (zj0 m.decls)/\EAt w A a3 m.procs.length (zhz m.procs)/\EAt w A a4 m.main.length (zbp m.main)
abbrev zcw:Obj:=.cells #[.string ⟨#[]⟩,qs,qs,qs,qs] 27 (0,0)
theorem zsw:Enters Tryz.prog 199:=enters_of Tryz.func199 (by kernel_rfl) rfl
theorem zsx:Enters Tryz.prog 200:=enters_of Tryz.func200 (by kernel_rfl) rfl
theorem z15 {A:Nat->Prop} {w:World} {d:De} (h:d.name.size<=maxLen):zau w A d.ds [qi d.kind,.string d.name,.bool d.pub,qi d.n]:=.cons zpw (.cons (zw9 h) (.cons z7t (.cons zpw .nil)))
theorem z16 {A:Nat->Prop} {w:World} {p:Pr} {a1 a2 a3:OA} {c1 c2 c3:Nat} (h:p.name.size<=maxLen) (h1:EAt w A a1 p.params.length (zaj p.params)) (h2:EAt w A a2 p.locals.length (zaj p.locals)) (h3:EAt w A a3 p.body.length (zbp p.body)):zau w A p.ds [.string p.name,.bool p.pub,.slice a1 p.params.length c1,.slice a2 p.locals.length c2,.slice a3 p.body.length c3]:=
 .cons (zw9 h) (.cons z7t (.cons h1.val (.cons h2.val (.cons h3.val .nil))))
theorem z7o {R cap C:Nat} {a:OA} {ts l':List Tk} {w ws wr:World} {r:Option (Mo × List Tk)} {m:Mo} {a1 a2 a3 a4:OA} {c1 c2 c3 c4:Nat} (h:FSt R a cap ts w ws C 27 zcw #[.string m.name,.slice a1 m.uses.length c1,.slice a2 m.decls.length c2,.slice a3 m.procs.length c3,.slice a4 m.main.length c4] wr l') (hr:r=some (m,l')) (hn:m.name.size<=maxLen) (h1:EAt wr (C<·) a1 m.uses.length (zaj m.uses)) (h2:EAt wr (C<·) a2 m.decls.length (zj0 m.decls)) (h3:EAt wr (C<·) a3 m.procs.length (zhz m.procs)) (h4:EAt wr (C<·) a4 m.main.length (zbp m.main)) :
 zd4 R a cap ts w r (zov (w.heap.size<=·)) (.returned (.agg #[.string m.name,.slice a1 m.uses.length c1,.slice a2 m.decls.length c2,.slice a3 m.procs.length c3,.slice a4 m.main.length c4])) (set5 wr w.heap.size (.string m.name) (.slice a1 m.uses.length c1) (.slice a2 m.decls.length c2) (.slice a3 m.procs.length c3) (.slice a4 m.main.length c4)):=by
 obtain ⟨l0,h0⟩:=h.r0;have hC:=h.hC
 have hm:zad wr (C<·) (set5 wr w.heap.size (.string m.name) (.slice a1 m.uses.length c1) (.slice a2 m.decls.length c2) (.slice a3 m.procs.length c3) (.slice a4 m.main.length c4)) (w.heap.size<=·):=
  (((zad.refl wr (C<·)).set5 (b:=w.heap.size) (fun b _ hb=>by omega) _ _ _ _ _)).trans ⟨vaa _,fun b _ hb=>⟨by omega,rfl⟩⟩
 exact ⟨h.ke.set5 (vaa _) _ _ _ _ _,Or.inr ⟨m,l',_,hr,rfl,⟨a1,c1,a2,c2,a3,c3,a4,c4,rfl,hn,h1.moves hm,h2.moves hm,h3.moves hm,h4.moves hm⟩,h.rd.set5 h0 (vaa _) _ _ _ _ _⟩⟩
theorem low {w:World} {lo C n:Nat} {a:OA} {ds:List D} (h:EAt w (lo<=·) a n ds) (hl:C<lo):EAt w (C<·) a n ds:=h.moves ⟨vaa _,fun _ _ hb=>⟨vah hl hb,rfl⟩⟩
theorem zwa (R cap:Nat) (a:OA) (ts l:List Tk) (w:World) (h:Rd R a cap ts w l) :
 qc 159 #[pq R 0] w (zd4 R a cap ts w (zcc l) (zov (w.heap.size<=·))):=by
 have HR:Hid (Rd R a cap ts w l):=h;have Cz:=h.lt
 have GP:l.length<=4096:=by
  obtain ⟨k,_,rfl,_⟩:=h.idx;have:=h.len
  rw [vbv];omega
 have FZ:=hid (zv9 l);clear h;go_enter Tryz.func159,Tryz.ntmps159;go_wp2_with fail
 obtain ⟨w2,BJ⟩:∃ w2,w2=(w.alloc zcw).alloc zcw:=⟨_,rfl⟩
 have AA:w2.heap.size=w.heap.size+1+1:=by rw [BJ];simp
 have Eh:Hid (FSt R a cap ts w w2 (w.heap.size+1) 27 zcw #[.string ⟨#[]⟩,qs,qs,qs,qs] w2 l):=
  ⟨by rw [BJ];exact (HR.out.alloc _).alloc _,by rw [BJ];exact ((Keeps.refl R w).alloc _).alloc _,by rw [BJ];exact zab (heap_newP _ _),by rw [BJ];have:=heap_newP (w.alloc zcw) zcw;simpa using this,zad.refl _ _,Cz,by omega,by omega,l,HR.out⟩
 rw [← BJ];clear BJ;generalize hC:w.heap.size+1=C at *;refine (zfk R cap _ a ts l zn2 w2 AA.symm Eh.out.rd (by decide)).mono ?_;rintro e w3 ⟨KK,⟨s1,rfl⟩ | ⟨s1,rfl,RD⟩⟩
 . exact ⟨rfl,Eh.out.ke.trans KK,Or.inl ⟨by rw [FZ.out,if_neg (by simp [s1])],rfl⟩⟩
 have Bp:=hid (Eh.out.keeps KK RD);have Bw:=KK.size;have Ci:=zah (by decide) s1;clear RD KK Eh;go_wp2_with fail;refine (zbv R cap a ts l.tail w3 Bp.out.rd).mono ?_;rintro e w4 ⟨KK,⟨hn,rfl⟩ | ⟨nm,l4,v,hn,rfl,⟨rfl,B5⟩,RD⟩⟩
 . exact ⟨rfl,Bp.out.ke.trans KK,Or.inl ⟨by rw [FZ.out,if_pos s1,hn],rfl⟩⟩
 have CH:Hid (zcc l=if skB l4 tLb then pM1 nm l4.tail else none):=by show _=_;rw [FZ.out,if_pos s1,hn]
 have DD:=hid (Bp.out.keeps KK RD);have CX:=KK.size;have EN:=zbk hn;clear RD KK Bp hn s1 FZ;have Eg:=hid (DD.out.put 0 (.string nm))
 have C2:(w4.setCell (qa C 0) (.string nm)).heap.size=w4.heap.size:=by simp only [vaq]
 obtain ⟨h0,h1,h2,h3,h4,h5⟩:=zaa DD.out.cb;have LB:C<w4.heap.size:=lt_of_heap DD.out.cb;go_wp2_with fail;generalize w4.setCell (qa C 0) (.string nm)=w5 at *;clear h0 h1 h2 h3 h4 h5 DD;refine (zfk R cap _ a ts l4 tLb w5 (by omega) Eg.out.rd (by decide)).mono ?_;rintro e w6 ⟨KK,⟨s1,rfl⟩ | ⟨s1,rfl,RD⟩⟩
 . exact ⟨rfl,Eg.out.ke.trans KK,Or.inl ⟨by rw [CH.out,if_neg (by simp [s1])],rfl⟩⟩
 have Dg:Hid (zcc l=pM1 nm l4.tail):=by show _=_;rw [CH.out,if_pos s1]
 have Gz:Hid (FSt R a cap ts w w2 C 27 zcw #[.string nm,qs,qs,qs,qs] w6 l4.tail):=Eg.out.keeps KK RD;have GC:=KK.size;have FN:=zah (by decide) s1;clear RD KK Eg s1 CH;generalize Od:l4.tail=l6 at *
 have LU:l6.length<l.length:=by omega
 have HW:=hid Gz.out.restart;have SU:C<w6.heap.size:=lt_of_heap Gz.out.cb;have PM:w2.heap.size<=w6.heap.size:=Gz.out.mv.1;clear Gz Od Ci EN FN;go_wp2_with fail
 go_loopw [] (fun wr=>∃ (g:Nat) (A5:List ByteArray) (l':List Tk) (v:Value),Hid (zcq zt0 (l6.length+1) [] l6=zcq zt0 g A5 l')/\l'.length+1<=g/\A5.length+l'.length<=l.length/\FSt R a cap ts w w6 C 27 zcw #[.string nm,v,qs,qs,qs] wr l'/\Row w6.heap.size 9 1 wr v A5.length (zaj A5)) (fun wr=>zhv R ts.length wr)
 case atStart=>exact ⟨_,[],l6,_,rfl,vaa _,by simp;omega,HW.out,Row.nil _ _ _ _⟩
 case round =>
  obtain ⟨g,A5,l',v,HG,hg,hacc,hF,Aa⟩:=hrel;have HF:=hid hF;have HO:=hid Aa;have Ej:Hid (zhv R ts.length wr=l'.length):=hF.rd.left
  obtain ⟨g,rfl⟩:∃ g',g=g'+1:=⟨g - 1,by omega⟩
  clear hF Aa HW;go_wp2_with fail
  cases hs:skB l' zt0 with
  | true =>
    refine (zbl R cap a ts l' zt0 wr (by decide) HF.out.rd hs).mono ?_;rintro e w7 ⟨rfl,Aq,Am⟩;have Ci:=zah (by decide) hs;have Ii:=Am.size;have BQ:=hid (HF.out.keeps Am Aq);have Gu:=hid (HO.out.keeps Am (by omega));obtain ⟨h0,hvw7,h2,h3,h4,h5⟩:=zaa BQ.out.cb;have Hj:C<w7.heap.size:=lt_of_heap BQ.out.cb
    have EX:Hid (∀ {b:Nat} {W:World},b<W.heap.size->False->w7.heap.size<=W.heap.size->zes w6.heap.size v b):=fun _ h _=>h.elim
    have GD:w6.heap.size<=wr.heap.size:=HF.out.mv.1;clear Am Aq HF HO;go_wp2_with fail
    cases hx:zde l'.tail with
    | none=>
      have HE:Hid (∀ w',Rd R a cap ts w' l'.tail->qc 196 #[pq R 0] w' fun e Az=>e = .panicked zag/\Keeps R w' Az):=fun w' h'=>by
       refine (zbv R cap a ts _ w' h').mono ?_;rintro e Az ⟨hk,⟨_,rfl⟩ | ⟨_,_,_,h,_⟩⟩
       . exact ⟨rfl,hk⟩
       . rw [hx] at h;cases h
      have HP:Hid (zcc l=none):=by show _=_;rw [Dg.out];unfold pM1;rw [HG.out];unfold zcq;rw [if_pos hs,hx]
      clear hx;go_wp2_with fail;refine wp_region_any (by kernel_rfl) ?_
      change wpAny _ _ _ _ _ _ _ (World.drew _)
      refine wpAny_take (i:=2) (v:=pq R 0) rfl (by kernel_rfl) (by kernel_rfl) (by kernel_rfl) (fun c a w h=>h) (Or.inl ⟨by rfl,fun w=>by go_simp⟩) ?_;refine wpAny_take (i:=0) (v:=pq C 1) rfl (by kernel_rfl) (by kernel_rfl) (by kernel_rfl) (fun c a w h=>h) (Or.inl ⟨by rfl,fun w=>by go_simp⟩) ?_;refine wpAny_ready (rs:=[1,3]) (by kernel_rfl) (by simp) ?_;refine veh rfl (fun K hK=>?_) (veh rfl (fun K hK=>?_) vej)
      . go_simp
        refine hK _ _ ?_;clear hK K;refine wpAny_ready (rs:=[3]) (by kernel_rfl) (by simp) ?_;refine veh rfl (fun K hK=>?_) vej;refine zbf (by rfl) 196 _ _ (by rfl) zd5 _ (by rfl) zag (HE.out _ BQ.out.rd.drew) ?_;intro w8 hk8;exact ⟨rfl,BQ.out.ke.drew.trans hk8,Or.inl ⟨HP.out,rfl⟩⟩
      . refine zbf (by rfl) 196 _ _ (by rfl) zd5 _ (by rfl) zag (HE.out _ BQ.out.rd.drew) ?_
        intro w8 hk8;exact ⟨rfl,BQ.out.ke.drew.trans hk8,Or.inl ⟨HP.out,rfl⟩⟩
    | some r=>
      obtain ⟨y,ly⟩:=r
      have HE:Hid (∀ w',Rd R a cap ts w' l'.tail->qc 196 #[pq R 0] w' fun e Az=>∃ u,e = .returned u/\(Keeps R w' Az/\(u = .string y/\y.size<=maxLen)/\Rd R a cap ts Az ly)):=fun w' h'=>by
       refine (zbv R cap a ts _ w' h').mono ?_;rintro e Az ⟨hk,⟨h,_⟩ | ⟨y',l',u,h,rfl,hr,hd⟩⟩
       . rw [hx] at h;cases h
       . rw [hx] at h
         obtain ⟨rfl,rfl⟩:=vao (vab h);exact ⟨u,rfl,hk,hr,hd⟩
      have Dy:Hid (zcq zt0 (l6.length+1) [] l6=if skB ly zhj then zcq zt0 g (A5++[y]) ly.tail else none):=by show _=_;rw [HG.out];unfold zcq;rw [if_pos hs,hx];cases g<;>rfl
      have Is:=zbk hx;clear hx;go_wp2_with fail
      go_region_law (first
       | (refine zb9 (by rfl) 196 _ _ (by rfl) zd5 _ (by rfl) (HE.out _ BQ.out.rd.drew) ?_
          rintro u8 w8 ⟨AN,⟨rfl,hy8⟩,Cc⟩;have Dj:w7.heap.size<=w8.heap.size:=AN.size;have Cv:=hid (BQ.out.drew.keeps AN Cc);have Hd:w8.cell? (qa C 1)=some v:=(AN.cell (show C<w7.heap.size from Hj) (by omega)).trans hvw7
          have Il:C<w8.heap.size:=by omega
          have CT:Hid (Row w6.heap.size 9 1 w8 v A5.length (zaj A5)):=(Gu.out.keeps (Keeps.refl R w7).drew (by omega)).keeps AN (by omega))
       | (refine zbj (by rfl) _ _ 22 (by rfl) w6.heap.size 9 _ 1 16 Tryz.underlying22 Tryz.infoP9 rfl (by decide) w8 _ A5.length (zaj A5) [.str y] (by rfl) CT.out #[.string y] _ rfl (by rfl) rfl (fun _=>False) (.cons (zw9 hy8) .nil) (fun b hb hA=>?_) (by omega) (by decide) (by omega) ?_
          focus (exact EX.out hb hA Dj)
          intro g9 c9 w9 Dz B7 ED;obtain ⟨k0,k1,k2,k3,k4,k5⟩:=zaa (Cv.out.belowB B7 (by omega)).cb
          have J0:C<w9.heap.size:=by omega
          have CI:=hid ((Cv.out.belowB B7 (by omega)).put 1 (.slice (some (qa g9 0)) (A5.length+1) c9))
          have BW:=hid (Dz.set (p:=(qa C 1)) (by show C<w6.heap.size;omega) (.slice (some (qa g9 0)) (A5.length+1) c9))))
      all_goals
       clear HE;go_wp2_with fail
       have FE:(w9.setCell (qa C 1) (.slice (some (qa g9 0)) (A5.length+1) c9)).heap.size=w9.heap.size:=by simp only [vaq]
       generalize w9.setCell (qa C 1) (.slice (some (qa g9 0)) (A5.length+1) c9)=Di at *;refine (zfk R cap _ a ts ly zhj Di (by omega) CI.out.rd (by decide)).mono ?_;rintro e z1 ⟨ZK,⟨zs,rfl⟩ | ⟨zs,rfl,ZR⟩⟩
       . exact ⟨rfl,CI.out.ke.trans ZK,Or.inl ⟨by rw [Dg.out];unfold pM1;rw [Dy.out,if_neg (by simp [zs])],rfl⟩⟩
       have Kf:=hid (CI.out.keeps ZK ZR);have N1:=hid (BW.out.keeps ZK (by omega));have Qg:=zah (by decide) zs
       have MW:Hid (zcq zt0 (l6.length+1) [] l6=zcq zt0 g (A5++[y]) ly.tail):=by show _=_;rw [Dy.out,if_pos zs]
       clear ZK ZR zs Dy CI BW;go_wp2_with fail;go_roundw
       case rel=>exact ⟨g,A5++[y],ly.tail,_,MW,by simp;omega,by simp;omega,Kf.out,by rw [vam];rw [show zaj (A5++[y])=zaj A5++[.str y] from by simp [zaj]];exact N1.out⟩
       case measure=>rw [Kf.out.rd.left,Ej.out];simp;omega
  | false =>
    refine (zb2 R cap a ts l' zt0 wr HF.out.rd hs).mono ?_;rintro e w7 ⟨rfl,Aq,Am⟩;have BQ:=hid (HF.out.keeps Am Aq);have Gu:=hid (HO.out.keeps Am (by omega))
    have E0:Hid (zcc l=pM2 nm A5 l'):=by show _=_;rw [Dg.out];unfold pM1;rw [HG.out];unfold zcq;rw [if_neg (by simp [hs])]
    obtain ⟨a7,c7,rfl,hls⟩:=Gu.out.slice;have Hs:Hid (EAt w7 (C<·) a7 A5.length (zaj A5)):=low hls (by omega);have GD:w6.heap.size<=wr.heap.size:=HF.out.mv.1;have Ii:=Am.size;have HW:=hid BQ.out.restart;have ST:C<w7.heap.size:=lt_of_heap BQ.out.cb
    have Jq:l'.length<=l.length:=by omega
    clear Am Aq HF HO hs hls HG Dg BQ Gu Ej hacc hg g;generalize Ga:A5=us at *;generalize Oc:l'=l7 at *;clear Ga Oc;go_wp2_with fail
    go_loopw [] (fun wr=>∃ (g:Nat) (A5:List De) (l':List Tk) (v:Value),Hid (ze9 (l7.length+1) [] l7=ze9 g A5 l')/\l'.length+1<=g/\A5.length+l'.length<=l.length/\FSt R a cap ts w w7 C 27 zcw #[.string nm,.slice a7 us.length c7,v,qs,qs] wr l'/\Row w7.heap.size 170 4 wr v A5.length (zj0 A5)) (fun wr=>zhv R ts.length wr)
    case atStart=>exact ⟨_,[],l7,_,rfl,vaa _,by simp;omega,HW.out,Row.nil _ _ _ _⟩
    case round =>
     obtain ⟨g,A5,l',v,HG,hg,hacc,hF,Aa⟩:=hrel;have HF:=hid hF;have HO:=hid Aa;have Ej:Hid (zhv R ts.length wr=l'.length):=hF.rd.left
     obtain ⟨g,rfl⟩:∃ g',g=g'+1:=⟨g - 1,by omega⟩
     clear hF Aa HW;go_wp2_with fail;refine (zou R cap a ts l' wr HF.out.rd).mono ?_
     cases hs:zv8 l' with
     | true =>
       rintro e D2 ⟨rfl,hb13⟩;have Lt:=hb13.size;have BZ:=hid (HF.out.later hb13);have G0:=hid (HO.out.later hb13);obtain ⟨h0,h1,hvw13,h3,h4,h5⟩:=zaa BZ.out.cb;have Jx:C<D2.heap.size:=lt_of_heap BZ.out.cb
       have Ho:Hid (∀ {b:Nat} {W:World},b<W.heap.size->False->D2.heap.size<=W.heap.size->zes w7.heap.size v b):=fun _ h _=>h.elim
       have GD:w7.heap.size<=wr.heap.size:=HF.out.mv.1;clear hb13 HF HO;go_wp2_with fail
       cases hx:zbw l' with
       | none=>
         have HE:Hid (∀ w',Rd R a cap ts w' l'->qc 199 #[pq R 0] w' fun e Az=>e = .panicked zag/\Keeps R w' Az):=fun w' h'=>by
          refine (zuu R cap a ts _ w' h').mono ?_;rintro e Az ⟨hk,⟨_,rfl⟩ | ⟨_,_,_,h,_⟩⟩
          . exact ⟨rfl,hk⟩
          . rw [hx] at h;cases h
         have HP:Hid (zcc l=none):=by show _=_;rw [E0.out];unfold pM2;rw [HG.out];unfold ze9;rw [if_pos hs,hx]
         clear hx;go_wp2_with fail;refine wp_region_any (by kernel_rfl) ?_
         change wpAny _ _ _ _ _ _ _ (World.drew _)
         refine wpAny_take (i:=2) (v:=pq R 0) rfl (by kernel_rfl) (by kernel_rfl) (by kernel_rfl) (fun c a w h=>h) (Or.inl ⟨by rfl,fun w=>by go_simp⟩) ?_;refine wpAny_take (i:=0) (v:=pq C 2) rfl (by kernel_rfl) (by kernel_rfl) (by kernel_rfl) (fun c a w h=>h) (Or.inl ⟨by rfl,fun w=>by go_simp⟩) ?_;refine wpAny_ready (rs:=[1,3]) (by kernel_rfl) (by simp) ?_;refine veh rfl (fun K hK=>?_) (veh rfl (fun K hK=>?_) vej)
         . go_simp
           refine hK _ _ ?_;clear hK K;refine wpAny_ready (rs:=[3]) (by kernel_rfl) (by simp) ?_;refine veh rfl (fun K hK=>?_) vej;refine zbf (by rfl) 199 _ _ (by rfl) zsw _ (by rfl) zag (HE.out _ BZ.out.rd.drew) ?_;intro w8 hk8;exact ⟨rfl,BZ.out.ke.drew.trans hk8,Or.inl ⟨HP.out,rfl⟩⟩
         . refine zbf (by rfl) 199 _ _ (by rfl) zsw _ (by rfl) zag (HE.out _ BZ.out.rd.drew) ?_
           intro w8 hk8;exact ⟨rfl,BZ.out.ke.drew.trans hk8,Or.inl ⟨HP.out,rfl⟩⟩
       | some r=>
         obtain ⟨y,ly⟩:=r
         have HE:Hid (∀ w',Rd R a cap ts w' l'->qc 199 #[pq R 0] w' fun e Az=>∃ u,e = .returned u/\(Keeps R w' Az/\zzh y Az u/\Rd R a cap ts Az ly)):=fun w' h'=>by
          refine (zuu R cap a ts _ w' h').mono ?_;rintro e Az ⟨hk,⟨h,_⟩ | ⟨y',l',u,h,rfl,hr,hd⟩⟩
          . rw [hx] at h;cases h
          . rw [hx] at h
            obtain ⟨rfl,rfl⟩:=vao (vab h);exact ⟨u,rfl,hk,hr,hd⟩
         have Dy:Hid (ze9 (l7.length+1) [] l7=ze9 g (A5++[y]) ly):=by show _=_;rw [HG.out];unfold ze9;rw [if_pos hs,hx];cases g<;>rfl
         have Is:=zur hx;clear hx;go_wp2_with fail
         go_region_law (first
          | (refine zb9 (by rfl) 199 _ _ (by rfl) zsw _ (by rfl) (HE.out _ BZ.out.rd.drew) ?_
             rintro u8 w8 ⟨AN,⟨rfl,hy8⟩,Cc⟩;have Dj:D2.heap.size<=w8.heap.size:=AN.size;have Cv:=hid (BZ.out.drew.keeps AN Cc);have Hd:w8.cell? (qa C 2)=some v:=(AN.cell (show C<D2.heap.size from Jx) (by omega)).trans hvw13
             have Il:C<w8.heap.size:=by omega
             have CT:Hid (Row w7.heap.size 170 4 w8 v A5.length (zj0 A5)):=(G0.out.keeps (Keeps.refl R D2).drew (by omega)).keeps AN (by omega))
          | (refine zbj (by rfl) _ _ 23 (by rfl) w7.heap.size 170 _ 4 40 Tryz.underlying23 Tryz.infoP56 rfl (by decide) w8 _ A5.length (zj0 A5) y.ds (by rfl) CT.out #[.int .i64 y.kind,.string y.name,.bool y.pub,.int .i64 y.n] _ rfl (by rfl) rfl (fun _=>False) (z15 hy8) (fun b hb hA=>?_) (by omega) (by decide) (by omega) ?_
             focus (exact Ho.out hb hA Dj)
             intro g9 c9 w9 Dz B7 ED;obtain ⟨k0,k1,k2,k3,k4,k5⟩:=zaa (Cv.out.belowB B7 (by omega)).cb
             have J0:C<w9.heap.size:=by omega
             have CI:=hid ((Cv.out.belowB B7 (by omega)).put 2 (.slice (some (qa g9 0)) (A5.length+1) c9))
             have BW:=hid (Dz.set (p:=(qa C 2)) (by show C<w7.heap.size;omega) (.slice (some (qa g9 0)) (A5.length+1) c9))))
         all_goals
          clear HE;go_wp2_with fail;go_roundw
          case rel=>exact ⟨g,A5++[y],ly,_,Dy,by omega,by simp;omega,CI.out,by rw [vam];rw [show zj0 (A5++[y])=zj0 A5++y.ds from by simp [zj0]];exact BW.out⟩
          case measure=>rw [CI.out.rd.left,Ej.out];omega
     | false =>
       rintro e D2 ⟨rfl,hb13⟩;have BZ:=hid (HF.out.later hb13);have G0:=hid (HO.out.later hb13)
       have I0:Hid (zcc l=pM3 nm us A5 l'):=by show _=_;rw [E0.out];unfold pM2;rw [HG.out];unfold ze9;rw [if_neg (by simp [hs])]
       obtain ⟨JD,c13,rfl,hls⟩:=G0.out.slice;have GD:w7.heap.size<=wr.heap.size:=HF.out.mv.1;have Lt:=hb13.size;have Pz:Hid (EAt D2 (C<·) JD A5.length (zj0 A5)):=low hls (by omega);have JH:Hid (EAt D2 (C<·) a7 us.length (zaj us)):=BZ.out.at' Hs.out;have HW:=hid BZ.out.restart;have QZ:C<D2.heap.size:=lt_of_heap BZ.out.cb
       have Jq:l'.length<=l.length:=by omega
       clear hb13 HF HO hs hls HG E0 BZ G0 Ej hacc hg g Hs;generalize Jk:A5=ds at *;generalize LV:l'=l13 at *;clear Jk LV;go_wp2_with fail
       go_loopw [] (fun wr=>∃ (g:Nat) (A5:List Pr) (l':List Tk) (v:Value),Hid (zfa (l13.length+1) [] l13=zfa g A5 l')/\l'.length+1<=g/\A5.length+l'.length<=l.length/\FSt R a cap ts w D2 C 27 zcw #[.string nm,.slice a7 us.length c7,.slice JD ds.length c13,v,qs] wr l'/\Row D2.heap.size 118 5 wr v A5.length (zhz A5)) (fun wr=>zhv R ts.length wr)
       case atStart=>exact ⟨_,[],l13,_,rfl,vaa _,by simp;omega,HW.out,Row.nil _ _ _ _⟩
       case round=>
        obtain ⟨g,A5,l',v,HG,hg,hacc,hF,Aa⟩:=hrel;have HF:=hid hF;have HO:=hid Aa;have Ej:Hid (zhv R ts.length wr=l'.length):=hF.rd.left
        obtain ⟨g,rfl⟩:∃ g',g=g'+1:=⟨g - 1,by omega⟩
        clear hF Aa HW;go_wp2_with fail
        cases hs:skB l' zrs with
        | false =>
          refine (zb2 R cap a ts l' zrs wr HF.out.rd hs).mono ?_;rintro e DI ⟨rfl,Aq,Am⟩;have Ls:=Am.size;have BL:=hid (HF.out.keeps Am Aq);have F6:=hid (HO.out.keeps Am (by omega));obtain ⟨h0,h1,h2,hvw23,h4,h5⟩:=zaa BL.out.cb;have Jw:C<DI.heap.size:=lt_of_heap BL.out.cb;have GD:D2.heap.size<=wr.heap.size:=HF.out.mv.1
          have Hn:Hid (∀ {b:Nat} {W:World},b<W.heap.size->DI.heap.size<=b->DI.heap.size<=W.heap.size->zes D2.heap.size v b):=fun {b} _ _ h _=>⟨by omega,fun e=>by have:=(F6.out.lt b e).2;omega⟩
          clear Am Aq HF HO;go_wp2_with fail
          cases hx:ze8 l' with
          | none=>
            have HE:Hid (∀ w',Rd R a cap ts w' l'->qc 200 #[pq R 0] w' fun e Az=>e = .panicked zag/\Keeps R w' Az):=fun w' h'=>by
             refine (zuv R cap a ts _ w' h').mono ?_;rintro e Az ⟨hk,⟨_,rfl⟩ | ⟨_,_,_,h,_⟩⟩
             . exact ⟨rfl,hk⟩
             . rw [hx] at h;cases h
            have HP:Hid (zcc l=none):=by show _=_;rw [I0.out];unfold pM3;rw [HG.out];unfold zfa;rw [if_neg (by simp [hs]),hx]
            clear hx;go_wp2_with fail;refine wp_region_any (by kernel_rfl) ?_
            change wpAny _ _ _ _ _ _ _ (World.drew _)
            refine wpAny_take (i:=2) (v:=pq R 0) rfl (by kernel_rfl) (by kernel_rfl) (by kernel_rfl) (fun c a w h=>h) (Or.inl ⟨by rfl,fun w=>by go_simp⟩) ?_;refine wpAny_take (i:=0) (v:=pq C 3) rfl (by kernel_rfl) (by kernel_rfl) (by kernel_rfl) (fun c a w h=>h) (Or.inl ⟨by rfl,fun w=>by go_simp⟩) ?_;refine wpAny_ready (rs:=[1,3]) (by kernel_rfl) (by simp) ?_;refine veh rfl (fun K hK=>?_) (veh rfl (fun K hK=>?_) vej)
            . go_simp
              refine hK _ _ ?_;clear hK K;refine wpAny_ready (rs:=[3]) (by kernel_rfl) (by simp) ?_;refine veh rfl (fun K hK=>?_) vej;refine zbf (by rfl) 200 _ _ (by rfl) zsx _ (by rfl) zag (HE.out _ BL.out.rd.drew) ?_;intro w8 hk8;exact ⟨rfl,BL.out.ke.drew.trans hk8,Or.inl ⟨HP.out,rfl⟩⟩
            . refine zbf (by rfl) 200 _ _ (by rfl) zsx _ (by rfl) zag (HE.out _ BL.out.rd.drew) ?_
              intro w8 hk8;exact ⟨rfl,BL.out.ke.drew.trans hk8,Or.inl ⟨HP.out,rfl⟩⟩
          | some r=>
            obtain ⟨y,ly⟩:=r
            have HE:Hid (∀ w',Rd R a cap ts w' l'->qc 200 #[pq R 0] w' fun e Az=>∃ u,e = .returned u/\(Keeps R w' Az/\z5k (w'.heap.size<=·) y Az u/\Rd R a cap ts Az ly)):=fun w' h'=>by
             refine (zuv R cap a ts _ w' h').mono ?_;rintro e Az ⟨hk,⟨h,_⟩ | ⟨y',l',u,h,rfl,hr,hd⟩⟩
             . rw [hx] at h;cases h
             . rw [hx] at h
               obtain ⟨rfl,rfl⟩:=vao (vab h);exact ⟨u,rfl,hk,hr,hd⟩
            have Dy:Hid (zfa (l13.length+1) [] l13=zfa g (A5++[y]) ly):=by show _=_;rw [HG.out];unfold zfa;rw [if_neg (by simp [hs]),hx];cases g<;>rfl
            have Is:=zut hx;clear hx;go_wp2_with fail
            go_region_law (first
             | (refine zb9 (by rfl) 200 _ _ (by rfl) zsx _ (by rfl) (HE.out _ BL.out.rd.drew) ?_
                rintro u8 w8 ⟨AN,⟨p1,q1,p2,q2,p3,q3,rfl,hy0,D3,CJ,Dk⟩,Cc⟩;have Dj:DI.heap.size<=w8.heap.size:=AN.size;have Cv:=hid (BL.out.drew.keeps AN Cc);have Hd:w8.cell? (qa C 3)=some v:=(AN.cell (show C<DI.heap.size from Jw) (by omega)).trans hvw23
                have Il:C<w8.heap.size:=by omega
                have CT:Hid (Row D2.heap.size 118 5 w8 v A5.length (zhz A5)):=(F6.out.keeps (Keeps.refl R DI).drew (by omega)).keeps AN (by omega))
             | (refine zbj (by rfl) _ _ 24 (by rfl) D2.heap.size 118 _ 5 96 Tryz.underlying24 Tryz.infoP60 rfl (by decide) w8 _ A5.length (zhz A5) y.ds (by rfl) CT.out #[.string y.name,.bool y.pub,.slice p1 y.params.length q1,.slice p2 y.locals.length q2,.slice p3 y.body.length q3] _ rfl (by rfl) rfl (DI.heap.size<=·) (z16 hy0 D3 CJ Dk) (fun b hb hA=>?_) (by omega) (by decide) (by omega) ?_
                focus (exact Hn.out hb hA Dj)
                intro g9 c9 w9 Dz B7 ED;obtain ⟨k0,k1,k2,k3,k4,k5⟩:=zaa (Cv.out.belowB B7 (by omega)).cb
                have J0:C<w9.heap.size:=by omega
                have CI:=hid ((Cv.out.belowB B7 (by omega)).put 3 (.slice (some (qa g9 0)) (A5.length+1) c9))
                have BW:=hid (Dz.set (p:=(qa C 3)) (by show C<D2.heap.size;omega) (.slice (some (qa g9 0)) (A5.length+1) c9))))
            all_goals
             clear HE;go_wp2_with fail;go_roundw
             case rel=>exact ⟨g,A5++[y],ly,_,Dy,by omega,by simp;omega,CI.out,by rw [vam];rw [show zhz (A5++[y])=zhz A5++y.ds from by simp [zhz]];exact BW.out⟩
             case measure=>rw [CI.out.rd.left,Ej.out];omega
        | true=>
          refine (zbl R cap a ts l' zrs wr (by decide) HF.out.rd hs).mono ?_;rintro e DI ⟨rfl,Aq,Am⟩;have BL:=hid (HF.out.keeps Am Aq);have F6:=hid (HO.out.keeps Am (by omega))
          have HJ:Hid (zcc l=(match pB l'.tail with
           | none=>none
           | some (b,l5)=>if skB l5 tRb then some (⟨nm,us,ds,A5,b⟩,l5.tail) else none)):=by show _=_;rw [I0.out];unfold pM3;rw [HG.out];unfold zfa;rw [if_pos hs]
          obtain ⟨MJ,c23,rfl,hls⟩:=F6.out.slice;have GD:D2.heap.size<=wr.heap.size:=HF.out.mv.1;have Ls:=Am.size;have KY:Hid (EAt DI (C<·) MJ A5.length (zhz A5)):=low hls (by omega);have Hs:Hid (EAt DI (C<·) a7 us.length (zaj us)):=BL.out.at' JH.out;have Kj:Hid (EAt DI (C<·) JD ds.length (zj0 ds)):=BL.out.at' Pz.out;have HW:=hid BL.out.restart;have QY:C<DI.heap.size:=lt_of_heap BL.out.cb;clear Am Aq HF HO hs hls HG I0 BL F6 Ej JH Pz;go_wp2_with fail;refine (zqt R cap a ts l'.tail DI HW.out.rd).mono ?_;rintro e GB ⟨KK,⟨hn,rfl⟩ | ⟨b,l4,v,hn,rfl,⟨a4,c4,rfl,Aj⟩,RD⟩⟩
          . exact ⟨rfl,HW.out.ke.trans KK,Or.inl ⟨by rw [HJ.out,hn],rfl⟩⟩
          have Hz:Hid (zcc l=if skB l4 tRb then some (⟨nm,us,ds,A5,b⟩,l4.tail) else none):=by show _=_;rw [HJ.out,hn]
          have I5:=hid (HW.out.keeps KK RD);have PO:=KK.size;have G5:Hid (FSt R a cap ts w DI C 27 zcw #[.string nm,.slice a7 us.length c7,.slice JD ds.length c13,.slice MJ A5.length c23,.slice a4 b.length c4] (GB.setCell (qa C 4) (.slice a4 b.length c4)) l4):=I5.out.put 4 (.slice a4 b.length c4);have H4:Hid (EAt (GB.setCell (qa C 4) (.slice a4 b.length c4)) (C<·) a4 b.length (zbp b)):=Aj.moves (((zad.refl GB _).set (fun k _ hk=>by show k≠C;omega) _).trans ⟨vaa _,fun k _ hk=>⟨by omega,rfl⟩⟩);obtain ⟨h0,h1,h2,h3,h4,h5⟩:=zaa I5.out.cb
          have Q9:C<GB.heap.size:=by omega
          have PN:(GB.setCell (qa C 4) (.slice a4 b.length c4)).heap.size=GB.heap.size:=by simp only [vaq]
          clear KK RD hn I5 HW Aj HJ;go_wp2_with fail;generalize GB.setCell (qa C 4) (.slice a4 b.length c4)=w25 at *;clear h0 h1 h2 h3 h4 h5;refine (zfk R cap _ a ts l4 tRb w25 (by omega) G5.out.rd (by decide)).mono ?_;rintro e PG ⟨KK,⟨s1,rfl⟩ | ⟨s1,rfl,RD⟩⟩
          . exact ⟨rfl,G5.out.ke.trans KK,Or.inl ⟨by rw [Hz.out,if_neg (by simp [s1])],rfl⟩⟩
          have JU:Hid (zcc l=some (⟨nm,us,ds,A5,b⟩,l4.tail)):=by show _=_;rw [Hz.out,if_pos s1]
          have DE:=hid (G5.out.keeps KK RD);have hm:Hid (zad w25 (C<·) PG (C<·)):=(zad.refl w25 _).keeps KK (fun k _ hk=>by omega);have I4:=hid (z7o (m:=⟨nm,us,ds,A5,b⟩) DE.out JU.out B5 (DE.out.at' Hs.out) (DE.out.at' Kj.out) (DE.out.at' KY.out) (H4.out.moves hm.out));obtain ⟨h0,h1,h2,h3,h4,h5⟩:=zaa DE.out.cb;obtain ⟨g0,g1,g2,g3,g4,g5⟩:=zaa DE.out.zb
          have Ak:w.heap.size≠C:=by omega
          clear KK RD DE G5 H4 hm Hs Kj KY Hz JU s1;go_wp2_with fail;refine bodyPost_ret (v:=.agg #[.string nm,.slice a7 us.length c7,.slice JD ds.length c13,.slice MJ A5.length c23,.slice a4 b.length c4]) (by simp [results,Tryz.results159,go_sem,g0,g1,g2,g3,g4]) rfl I4.out
end Go.Proofs.YtndkhgakfodldaaGreatDoor
