import Derived.Test.YtndkhgakfodldaaGreatDoorPj
import Derived.Deep.DeepCutAuto
namespace Go.Proofs.YtndkhgakfodldaaGreatDoor
set_option maxRecDepth 100000
set_option maxHeartbeats 8000000
open Go.RowKit Go.Shelf
structure FSt (R:Nat) (a:OA) (cap:Nat) (ts:List Tk) (w ws:World) (C:Nat) (T:TypeId) (Z:Obj) (cs:Array Value) (wr:World) (l:List Tk):Prop where
 rd:Rd R a cap ts wr l
 ke:Keeps R w wr
 zb:wr.heap[w.heap.size]? = some Z
 cb:wr.heap[C]? = some (.cells cs T (0,0))
 mv:zad ws (C<·) wr (C<·)
 hR:R<w.heap.size
 hC:w.heap.size<C
 hs:C<ws.heap.size
 r0:∃ l0,Rd R a cap ts w l0
section
variable {R cap C:Nat} {a:OA} {ts l l':List Tk} {w ws wr w':World} {T:TypeId} {Z:Obj} {cs:Array Value}
theorem FSt.keeps (h:FSt R a cap ts w ws C T Z cs wr l) (hk:Keeps R wr w') (hr:Rd R a cap ts w' l'):FSt R a cap ts w ws C T Z cs w' l':=
 have h1:=h.hR;have h2:=h.hC
 ⟨hr,h.ke.trans hk,(hk.block _ (lt_of_heap h.zb) (by omega)).trans h.zb,(hk.block _ (lt_of_heap h.cb) (by omega)).trans h.cb,h.mv.keeps hk (fun b _ hb=>by omega),h.hR,h.hC,h.hs,h.r0⟩
theorem FSt.later (h:FSt R a cap ts w ws C T Z cs wr l) (hb:Below wr.heap.size wr w'):FSt R a cap ts w ws C T Z cs w' l:=h.keeps (Keeps.of_below hb R) (h.rd.later hb)
theorem FSt.alloc (h:FSt R a cap ts w ws C T Z cs wr l) (o:Obj):FSt R a cap ts w ws C T Z cs (wr.alloc o) l:=h.later ((Below.refl _ _).alloc (vaa _) o)
theorem FSt.drew (h:FSt R a cap ts w ws C T Z cs wr l):FSt R a cap ts w ws C T Z cs wr.drew l:=h.keeps (Keeps.refl R wr).drew h.rd.drew
theorem FSt.put (h:FSt R a cap ts w ws C T Z cs wr l) (i:Nat) (u:Value):FSt R a cap ts w ws C T Z (cs.setIfInBounds i u) (wr.setCell ⟨C,i,none⟩ u) l:=by
 obtain ⟨l0,h0⟩:=h.r0;have h2:=h.hC;exact ⟨h.rd.setAbove h0 (by show w.heap.size<=C;omega) u,h.ke.set (by show w.heap.size<=C;omega) u,(heap_set_ne (by show w.heap.size≠C;omega) u).trans h.zb,heap_set h.cb u,h.mv.set (fun b _ hb=>by show b≠C;omega) u,h.hR,h.hC,h.hs,h.r0⟩
theorem FSt.belowB {base:Nat} (h:FSt R a cap ts w ws C T Z cs wr l) (hb:Below base wr w') (hbase:ws.heap.size<=base):FSt R a cap ts w ws C T Z cs w' l:=by
 obtain ⟨l0,h0⟩:=h.r0;have h2:=h.hC;have h3:=h.hs;have hb':Below w.heap.size wr w':=hb.mono (by omega);exact ⟨h.rd.belowOf h0 hb',h.ke.belowOf hb',(hb.block _ (by omega)).trans h.zb,(hb.block _ (by omega)).trans h.cb,⟨vbc h.mv.1 hb.size,fun b hb1 hb2=>⟨hb2,(hb.block b (by omega)).trans (h.mv.2 b hb1 hb2).2⟩⟩,h.hR,h.hC,h.hs,h.r0⟩
theorem FSt.restart (h:FSt R a cap ts w ws C T Z cs wr l):FSt R a cap ts w wr C T Z cs wr l:=
 ⟨h.rd,h.ke,h.zb,h.cb,zad.refl _ _,h.hR,h.hC,lt_of_heap h.cb,h.r0⟩
theorem FSt.at (h:FSt R a cap ts w ws C T Z cs wr l) {n lo:Nat} {ad:OA} {ds:List D} (k:EAt ws (lo<=·) ad n ds) (hlo:C<lo):EAt wr (C<·) ad n ds:=
 k.moves ⟨h.mv.1,fun b h1 h2=>⟨vah hlo h2,(h.mv.2 b h1 (vah hlo h2)).2⟩⟩
theorem FSt.at' (h:FSt R a cap ts w ws C T Z cs wr l) {n:Nat} {ad:OA} {ds:List D} (k:EAt ws (C<·) ad n ds):EAt wr (C<·) ad n ds:=k.moves h.mv
end
def z5l (A:Nat->Prop) (p:Pr) (w:World) (v:Value):Prop:=∃ a1 c1 a2 c2 a3 c3,v = .agg #[.string p.name,.bool p.pub,.slice a1 p.params.length c1,.slice a2 p.locals.length c2,.slice a3 p.body.length c3]/\p.name.size<=maxLen/\EAt w A a1 p.params.length (zaj p.params)/\EAt w A a2 p.locals.length (zaj p.locals)/\EAt w A a3 p.body.length (zbp p.body)
abbrev zhx:Obj:=.cells #[.string ⟨#[]⟩,.bool false,.slice none 0 0,.slice none 0 0,.slice none 0 0] 118 (0,0)
theorem zd5:Enters Tryz.prog 196:=enters_of Tryz.func196 (by kernel_rfl) rfl
theorem z7n {R cap C:Nat} {a:OA} {ts l':List Tk} {w ws wr:World} {r:Option (Pr × List Tk)} {p:Pr} {a1 a2 a3:OA} {c1 c2 c3:Nat} (h:FSt R a cap ts w ws C 118 zhx #[.string p.name,.bool p.pub,.slice a1 p.params.length c1,.slice a2 p.locals.length c2,.slice a3 p.body.length c3] wr l') (hr:r=some (p,l')) (hn:p.name.size<=maxLen) (h1:EAt wr (C<·) a1 p.params.length (zaj p.params)) (h2:EAt wr (C<·) a2 p.locals.length (zaj p.locals)) (h3:EAt wr (C<·) a3 p.body.length (zbp p.body)) :
 zd4 R a cap ts w r (z5l (w.heap.size<=·)) (.returned (.agg #[.string p.name,.bool p.pub,.slice a1 p.params.length c1,.slice a2 p.locals.length c2,.slice a3 p.body.length c3])) (set5 wr w.heap.size (.string p.name) (.bool p.pub) (.slice a1 p.params.length c1) (.slice a2 p.locals.length c2) (.slice a3 p.body.length c3)):=by
 obtain ⟨l0,h0⟩:=h.r0;have hC:=h.hC
 have hm:zad wr (C<·) (set5 wr w.heap.size (.string p.name) (.bool p.pub) (.slice a1 p.params.length c1) (.slice a2 p.locals.length c2) (.slice a3 p.body.length c3)) (w.heap.size<=·):=
  (((zad.refl wr (C<·)).set5 (b:=w.heap.size) (fun b _ hb=>by omega) _ _ _ _ _)).trans ⟨vaa _,fun b _ hb=>⟨by omega,rfl⟩⟩
 exact ⟨h.ke.set5 (vaa _) _ _ _ _ _,Or.inr ⟨p,l',_,hr,rfl,⟨a1,c1,a2,c2,a3,c3,rfl,hn,h1.moves hm,h2.moves hm,h3.moves hm⟩,h.rd.set5 h0 (vaa _) _ _ _ _ _⟩⟩
theorem zuw (R cap:Nat) (a:OA) (ts l:List Tk) (w:World) (h:Rd R a cap ts w l) :
 Calls Tryz.prog 200 #[.pointer (some ⟨R,0,none⟩)] w (zd4 R a cap ts w (ze8 l) (z5l (w.heap.size<=·))):=by
 have HR:Hid (Rd R a cap ts w l):=h;have hRw:=h.lt
 have hlts:l.length<=4096:=by
  obtain ⟨k,_,rfl,_⟩:=h.idx;have:=h.len
  rw [vbv];omega
 have hpl:=zsw l;clear h;go_enter Tryz.func200,Tryz.ntmps200;go_wp2_with fail;refine (zot R cap a ts l zcu _ (by decide) (HR.out.alloc _)).mono ?_;rintro e w1 ⟨rfl,RD,KK⟩;have HRw1:Hid (Rd R a cap ts w1 (zhw l)):=RD;have HKw1:Hid (Keeps R w w1):=((Keeps.refl R w).alloc _).trans KK;have hz1:=KK.size;simp at hz1;have HB1:Hid (w1.heap[w.heap.size]? = some zhx):=(KK.block w.heap.size (by simp) (by omega)).trans (heap_newP _ _);clear RD KK;generalize hpub:skB l zcu=pub at *;have HPub:=hid hpub;clear hpub;go_wp2_with fail
 obtain ⟨w2,hw2⟩:∃ w2,w2=w1.alloc (.cells #[.string ⟨#[]⟩,.bool pub,.slice none 0 0,.slice none 0 0,.slice none 0 0] 118):=⟨_,rfl⟩
 have hz2:w2.heap.size=w1.heap.size+1:=by rw [hw2];simp
 have HF2:Hid (FSt R a cap ts w w2 w1.heap.size 118 zhx #[.string ⟨#[]⟩,.bool pub,.slice none 0 0,.slice none 0 0,.slice none 0 0] w2 (zhw l)):=
  ⟨by rw [hw2];exact HRw1.out.alloc _,by rw [hw2];exact HKw1.out.alloc _,by rw [hw2];exact zab HB1.out,by rw [hw2];exact heap_newP _ _,zad.refl _ _,hRw,by omega,by omega,l,HR.out⟩
 rw [← hw2];clear hw2 HRw1 HKw1 HB1;generalize hC:w1.heap.size=C at *;clear hC w1;refine (zfk R cap _ a ts (zhw l) z4h w2 hz2.symm HF2.out.rd (by decide)).mono ?_;rintro e w3 ⟨KK,⟨s1,rfl⟩ | ⟨s1,rfl,RD⟩⟩
 . exact ⟨rfl,HF2.out.ke.trans KK,Or.inl ⟨by unfold ze8;rw [if_neg (by simp [s1])],rfl⟩⟩
 have HF3:=hid (HF2.out.keeps KK RD);have hz3:=KK.size;have hl3:=zah (by decide) s1;clear RD KK HF2;go_wp2_with fail;refine (zbv R cap a ts (zhw l).tail w3 HF3.out.rd).mono ?_;rintro e w4 ⟨KK,⟨hn,rfl⟩ | ⟨nm,l4,v,hn,rfl,⟨rfl,hnm⟩,RD⟩⟩
 . exact ⟨rfl,HF3.out.ke.trans KK,Or.inl ⟨by unfold ze8;rw [if_pos s1,hn],rfl⟩⟩
 have HP4:Hid (ze8 l=if skB l4 tLp then (match zhc l4.tail with
  | none=>none
  | some (ps,l2)=>(match zcq zd6 (l2.length+1) [] l2 with
    | none=>none
    | some (ls,l3)=>(match pB l3 with | none=>none | some (b,l4)=>some (⟨nm,pub,ps,ls,b⟩,l4)))) else none):=by show ze8 l=_;unfold ze8;rw [if_pos s1,hn,HPub.out]<;>rfl
 have HF4:=hid (HF3.out.keeps KK RD);have hz4:=KK.size;have hl4:=zbk hn;clear RD KK HF3 hn s1 HPub;have HF5:=hid (HF4.out.put 0 (.string nm))
 have hz5:(w4.setCell ⟨C,0,none⟩ (.string nm)).heap.size=w4.heap.size:=by simp only [vaq]
 obtain ⟨h0,h1,h2,h3,h4,h5⟩:=zaa HF4.out.cb;have hq4:C<w4.heap.size:=lt_of_heap HF4.out.cb;go_wp2_with fail;generalize w4.setCell ⟨C,0,none⟩ (.string nm)=w5 at *;clear h0 h1 h2 h3 h4 h5 HF4;refine (zfk R cap _ a ts l4 tLp w5 (by omega) HF5.out.rd (by decide)).mono ?_;rintro e w6 ⟨KK,⟨s1,rfl⟩ | ⟨s1,rfl,RD⟩⟩
 . exact ⟨rfl,HF5.out.ke.trans KK,Or.inl ⟨by rw [HP4.out,if_neg (by simp [s1])],rfl⟩⟩
 have HP6:Hid (ze8 l=(match zhc l4.tail with
  | none=>none
  | some (ps,l2)=>(match zcq zd6 (l2.length+1) [] l2 with
    | none=>none
    | some (ls,l3)=>(match pB l3 with | none=>none | some (b,l4)=>some (⟨nm,pub,ps,ls,b⟩,l4))))):=by show ze8 l=_;rw [HP4.out,if_pos s1]
 have HF6:Hid (FSt R a cap ts w w2 C 118 zhx #[.string nm,.bool pub,.slice none 0 0,.slice none 0 0,.slice none 0 0] w6 l4.tail):=HF5.out.keeps KK RD;have hz6:=KK.size;have hl5:=zah (by decide) s1;clear RD KK HF5 s1 HP4;go_wp2_with fail;refine (zot R cap a ts l4.tail tRp w6 (by decide) HF6.out.rd).mono ?_;rintro e w7 ⟨rfl,RD,KK⟩;have HF7:=hid (HF6.out.keeps KK RD);have hz7:=KK.size;clear RD KK HF6
 go_upto_if 18 with fail
 go_cut [] (fun wc=>∃ (ps:List ByteArray) (l8:List Tk) (v:Value),Hid (zhc l4.tail=some (ps,l8))/\l8.length<l.length/\Hid (FSt R a cap ts w w2 C 118 zhx #[.string nm,.bool pub,v,.slice none 0 0,.slice none 0 0] wc l8)/\Hid (Row w2.heap.size 9 1 wc v ps.length (zaj ps)))
 case first =>
  generalize hl6:l4.tail=l6 at *
  have hl6':l6.length<l.length:=by omega
  cases hs:skB l6 tRp with
  | true=>
    rw [hs] at HF7;go_wp2_with fail;go_meet;exact ⟨[],l6.tail,.slice none 0 0,(by show _=_;unfold zhc;rw [if_pos hs]),(by simp;omega),HF7,Row.nil _ _ _ _⟩
  | false =>
    rw [hs] at HF7;have HF7':Hid (FSt R a cap ts w w2 C 118 zhx #[.string nm,.bool pub,.slice none 0 0,.slice none 0 0,.slice none 0 0] w7 l6):=HF7;clear HF7;have HF7:=HF7';clear HF7';obtain ⟨h0,h1,hvw7,h3,h4,h5⟩:=zaa HF7.out.cb;have hCw7:C<w7.heap.size:=lt_of_heap HF7.out.cb;have HO7:Hid (Row w2.heap.size 9 1 w7 (.slice none 0 0) 0 (zaj [])):=Row.nil _ _ _ _
    have besw7:Hid (∀ {b:Nat} {W:World},b<W.heap.size->False->w7.heap.size<=W.heap.size->zes w2.heap.size (.slice none 0 0) b):=fun _ h _=>h.elim
    go_wp2_with fail
    cases hx:zde l6 with
    | none=>
      have HE:Hid (∀ w',Rd R a cap ts w' l6->Calls Tryz.prog 196 #[.pointer (some ⟨R,0,none⟩)] w' fun e w''=>e = .panicked zag/\Keeps R w' w''):=fun w' h'=>by
       refine (zbv R cap a ts _ w' h').mono ?_;rintro e w'' ⟨hk,⟨_,rfl⟩ | ⟨_,_,_,h,_⟩⟩
       . exact ⟨rfl,hk⟩
       . rw [hx] at h;cases h
      have HP:Hid (ze8 l=none):=by show _=_;rw [HP6.out];unfold zhc;rw [if_neg (by simp [hs]),hx]
      clear hx;go_wp2_with fail;refine wp_region_any (by kernel_rfl) ?_
      change wpAny _ _ _ _ _ _ _ (World.drew _)
      refine wpAny_take (i:=2) (v:=.pointer (some ⟨R,0,none⟩)) rfl (by kernel_rfl) (by kernel_rfl) (by kernel_rfl) (fun c a w h=>h) (Or.inl ⟨by rfl,fun w=>by go_simp⟩) ?_;refine wpAny_take (i:=0) (v:=.pointer (some ⟨C,2,none⟩)) rfl (by kernel_rfl) (by kernel_rfl) (by kernel_rfl) (fun c a w h=>h) (Or.inl ⟨by rfl,fun w=>by go_simp⟩) ?_;refine wpAny_ready (rs:=[1,3]) (by kernel_rfl) (by simp) ?_;refine veh rfl (fun K hK=>?_) (veh rfl (fun K hK=>?_) vej)
      . go_simp
        refine hK _ _ ?_;clear hK K;refine wpAny_ready (rs:=[3]) (by kernel_rfl) (by simp) ?_;refine veh rfl (fun K hK=>?_) vej;refine zbf (by rfl) 196 _ _ (by rfl) zd5 _ (by rfl) zag (HE.out _ HF7.out.rd.drew) ?_;intro w8 hk8;exact ⟨rfl,HF7.out.ke.drew.trans hk8,Or.inl ⟨HP.out,rfl⟩⟩
      . refine zbf (by rfl) 196 _ _ (by rfl) zd5 _ (by rfl) zag (HE.out _ HF7.out.rd.drew) ?_
        intro w8 hk8;exact ⟨rfl,HF7.out.ke.drew.trans hk8,Or.inl ⟨HP.out,rfl⟩⟩
    | some r =>
      obtain ⟨y,ly⟩:=r
      have HE:Hid (∀ w',Rd R a cap ts w' l6->Calls Tryz.prog 196 #[.pointer (some ⟨R,0,none⟩)] w' fun e w''=>∃ u,e = .returned u/\(Keeps R w' w''/\(u = .string y/\y.size<=maxLen)/\Rd R a cap ts w'' ly)):=fun w' h'=>by
       refine (zbv R cap a ts _ w' h').mono ?_;rintro e w'' ⟨hk,⟨h,_⟩ | ⟨y',l',u,h,rfl,hr,hd⟩⟩
       . rw [hx] at h;cases h
       . rw [hx] at h
         obtain ⟨rfl,rfl⟩:=vao (vab h);exact ⟨u,rfl,hk,hr,hd⟩
      have HPy:Hid (zhc l6=zcp (ly.length+1) [y] ly):=by show _=_;unfold zhc;rw [if_neg (by simp [hs]),hx]
      have hly:=zbk hx;clear hx;go_wp2_with fail
      go_region_law (first
       | (refine zb9 (by rfl) 196 _ _ (by rfl) zd5 _ (by rfl) (HE.out _ HF7.out.rd.drew) ?_
          rintro u8 w8 ⟨HK8,⟨rfl,hy8⟩,HR8⟩;have hz8:w7.heap.size<=w8.heap.size:=HK8.size;have HF8:=hid (HF7.out.drew.keeps HK8 HR8);have hc8:w8.cell? ⟨C,2,none⟩=some (.slice none 0 0):=(HK8.cell (show C<w7.heap.size from hCw7) (by omega)).trans hvw7
          have hq8:C<w8.heap.size:=by omega
          have HO8:Hid (Row w2.heap.size 9 1 w8 (.slice none 0 0) 0 (zaj [])):=(HO7.out.keeps (Keeps.refl R w7).drew (by omega)).keeps HK8 (by omega))
       | (refine zbj (by rfl) _ _ 22 (by rfl) w2.heap.size 9 _ 1 16 Tryz.underlying22 Tryz.infoP9 rfl (by decide) w8 _ 0 (zaj []) [.str y] (by rfl) HO8.out #[.string y] _ rfl (by rfl) rfl (fun _=>False) (.cons (zxa hy8) .nil) (fun b hb hA=>?_) (by omega) (by decide) (by omega) ?_
          focus (exact besw7.out hb hA hz8)
          intro g9 c9 w9 HO9 HB9 hz9;obtain ⟨k0,k1,k2,k3,k4,k5⟩:=zaa (HF8.out.belowB HB9 (by omega)).cb
          have hq9:C<w9.heap.size:=by omega
          have HF9:=hid ((HF8.out.belowB HB9 (by omega)).put 2 (.slice (some ⟨g9,0,none⟩) (0+1) c9))
          have HO9':=hid (HO9.set (p:=⟨C,2,none⟩) (by show C<w2.heap.size;omega) (.slice (some ⟨g9,0,none⟩) (0+1) c9))))
      all_goals
       clear HE;go_wp2_with fail
       go_loopw [] (fun wr=>∃ (g:Nat) (acc:List ByteArray) (l':List Tk) (v:Value),Hid (zhc l6=zcp g acc l')/\l'.length+1<=g/\acc.length+l'.length<=l.length/\FSt R a cap ts w w2 C 118 zhx #[.string nm,.bool pub,v,.slice none 0 0,.slice none 0 0] wr l'/\Row w2.heap.size 9 1 wr v acc.length (zaj acc)) (fun wr=>zhv R ts.length wr)
       case atStart=>exact ⟨_,[y],ly,_,HPy,vaa _,by simp;omega,HF9.out,HO9'.out⟩
       case round=>
        obtain ⟨g,acc,l',v,HG,hg,hacc,hF,hrow⟩:=hrel;have HF:=hid hF;have HO:=hid hrow;have HDl:Hid (zhv R ts.length wr=l'.length):=hF.rd.left
        obtain ⟨g,rfl⟩:∃ g',g=g'+1:=⟨g - 1,by omega⟩
        clear hF hrow;go_wp2_with fail;refine (z7j R cap _ a ts l' z06 tRp _ (by simp) HF.out.rd (by decide) (by decide)).mono ?_;rintro e w3 ⟨HK3,⟨h1,h2,rfl⟩ | ⟨h1,rfl,HR3⟩ | ⟨h1,h2,rfl,HR3⟩⟩
        . exact ⟨rfl,HF.out.ke.trans HK3,Or.inl ⟨by rw [HP6.out,HG.out];unfold zcp;rw [if_neg (by simp [h1]),if_neg (by simp [h2])],rfl⟩⟩
        . have hl3:=zah (by decide) h1
          have hz3:=HK3.size;have HF3:=hid (HF.out.keeps HK3 HR3);have HO3:=hid (HO.out.keeps HK3 (by omega));obtain ⟨h0,h1',hvw3,h3,h4,h5⟩:=zaa HF3.out.cb;have hCw3:C<w3.heap.size:=lt_of_heap HF3.out.cb
          have besw3:Hid (∀ {b:Nat} {W:World},b<W.heap.size->False->w3.heap.size<=W.heap.size->zes w2.heap.size v b):=fun _ h _=>h.elim
          clear HK3 HR3 HF HO;go_wp2_with fail
          cases hx:zde l'.tail with
          | none=>
            have HE:Hid (∀ w',Rd R a cap ts w' l'.tail->Calls Tryz.prog 196 #[.pointer (some ⟨R,0,none⟩)] w' fun e w''=>e = .panicked zag/\Keeps R w' w''):=fun w' h'=>by
             refine (zbv R cap a ts _ w' h').mono ?_;rintro e w'' ⟨hk,⟨_,rfl⟩ | ⟨_,_,_,h,_⟩⟩
             . exact ⟨rfl,hk⟩
             . rw [hx] at h;cases h
            have HP:Hid (ze8 l=none):=by show _=_;rw [HP6.out,HG.out];unfold zcp;rw [if_pos h1,hx]
            clear hx;go_wp2_with fail;refine wp_region_any (by kernel_rfl) ?_
            change wpAny _ _ _ _ _ _ _ (World.drew _)
            refine wpAny_take (i:=2) (v:=.pointer (some ⟨R,0,none⟩)) rfl (by kernel_rfl) (by kernel_rfl) (by kernel_rfl) (fun c a w h=>h) (Or.inl ⟨by rfl,fun w=>by go_simp⟩) ?_;refine wpAny_take (i:=0) (v:=.pointer (some ⟨C,2,none⟩)) rfl (by kernel_rfl) (by kernel_rfl) (by kernel_rfl) (fun c a w h=>h) (Or.inl ⟨by rfl,fun w=>by go_simp⟩) ?_;refine wpAny_ready (rs:=[1,3]) (by kernel_rfl) (by simp) ?_;refine veh rfl (fun K hK=>?_) (veh rfl (fun K hK=>?_) vej)
            . go_simp
              refine hK _ _ ?_;clear hK K;refine wpAny_ready (rs:=[3]) (by kernel_rfl) (by simp) ?_;refine veh rfl (fun K hK=>?_) vej;refine zbf (by rfl) 196 _ _ (by rfl) zd5 _ (by rfl) zag (HE.out _ HF3.out.rd.drew) ?_;intro w8 hk8;exact ⟨rfl,HF3.out.ke.drew.trans hk8,Or.inl ⟨HP.out,rfl⟩⟩
            . refine zbf (by rfl) 196 _ _ (by rfl) zd5 _ (by rfl) zag (HE.out _ HF3.out.rd.drew) ?_
              intro w8 hk8;exact ⟨rfl,HF3.out.ke.drew.trans hk8,Or.inl ⟨HP.out,rfl⟩⟩
          | some r=>
            obtain ⟨y,ly⟩:=r
            have HE:Hid (∀ w',Rd R a cap ts w' l'.tail->Calls Tryz.prog 196 #[.pointer (some ⟨R,0,none⟩)] w' fun e w''=>∃ u,e = .returned u/\(Keeps R w' w''/\(u = .string y/\y.size<=maxLen)/\Rd R a cap ts w'' ly)):=fun w' h'=>by
             refine (zbv R cap a ts _ w' h').mono ?_;rintro e w'' ⟨hk,⟨h,_⟩ | ⟨y',l',u,h,rfl,hr,hd⟩⟩
             . rw [hx] at h;cases h
             . rw [hx] at h
               obtain ⟨rfl,rfl⟩:=vao (vab h);exact ⟨u,rfl,hk,hr,hd⟩
            have HPy:Hid (zhc l6=zcp g (acc++[y]) ly):=by show _=_;rw [HG.out];unfold zcp;rw [if_pos h1,hx];cases g<;>rfl
            have hly:=zbk hx;have hle:=HDl;clear hx;go_wp2_with fail
            go_region_law (first
             | (refine zb9 (by rfl) 196 _ _ (by rfl) zd5 _ (by rfl) (HE.out _ HF3.out.rd.drew) ?_
                rintro u8 w8 ⟨HK8,⟨rfl,hy8⟩,HR8⟩;have hz8:w3.heap.size<=w8.heap.size:=HK8.size;have HF8:=hid (HF3.out.drew.keeps HK8 HR8);have hc8:w8.cell? ⟨C,2,none⟩=some v:=(HK8.cell (show C<w3.heap.size from hCw3) (by omega)).trans hvw3
                have hq8:C<w8.heap.size:=by omega
                have HO8:Hid (Row w2.heap.size 9 1 w8 v acc.length (zaj acc)):=(HO3.out.keeps (Keeps.refl R w3).drew (by omega)).keeps HK8 (by omega))
             | (refine zbj (by rfl) _ _ 22 (by rfl) w2.heap.size 9 _ 1 16 Tryz.underlying22 Tryz.infoP9 rfl (by decide) w8 _ acc.length (zaj acc) [.str y] (by rfl) HO8.out #[.string y] _ rfl (by rfl) rfl (fun _=>False) (.cons (zxa hy8) .nil) (fun b hb hA=>?_) (by omega) (by decide) (by omega) ?_
                focus (exact besw3.out hb hA hz8)
                intro g9 c9 w9 HO9 HB9 hz9;obtain ⟨k0,k1,k2,k3,k4,k5⟩:=zaa (HF8.out.belowB HB9 (by omega)).cb
                have hq9:C<w9.heap.size:=by omega
                have HF9:=hid ((HF8.out.belowB HB9 (by omega)).put 2 (.slice (some ⟨g9,0,none⟩) (acc.length+1) c9))
                have HO9':=hid (HO9.set (p:=⟨C,2,none⟩) (by show C<w2.heap.size;omega) (.slice (some ⟨g9,0,none⟩) (acc.length+1) c9))))
            all_goals
             clear HE;go_wp2_with fail;go_roundw
             case rel=>exact ⟨g,acc++[y],ly,_,HPy,by omega,by simp;omega,HF9.out,by rw [vam];rw [show zaj (acc++[y])=zaj acc++[.str y] from by simp [zaj]];exact HO9'.out⟩
             case measure=>rw [HF9.out.rd.left,HDl.out];omega
        . have HPe:Hid (zhc l6=some (acc,l'.tail)):=by show _=_;rw [HG.out];unfold zcp;rw [if_neg (by simp [h1]),if_pos h2]
          have HF3:=hid (HF.out.keeps HK3 HR3);have HO3:=hid (HO.out.keeps HK3 (by omega));clear HK3 HR3 HF HO;go_wp2_with fail;go_meet;exact ⟨acc,l'.tail,v,HPe,by simp;omega,HF3,HO3⟩
 case rest =>
  obtain ⟨ps,l8,v8,HPp,hl8,HF8,HO8⟩:=hcut;obtain ⟨a8,c8,rfl,hps⟩:=HO8.out.slice;have HPs:=hid hps
  have HP8:Hid (ze8 l=(match zcq zd6 (l8.length+1) [] l8 with
   | none=>none
   | some (ls,l3)=>(match pB l3 with | none=>none | some (b,l4)=>some (⟨nm,pub,ps,ls,b⟩,l4)))):=by show _=_;rw [HP6.out,HPp.out]
  have HW:=hid HF8.out.restart;have hCc:C<wc.heap.size:=lt_of_heap HF8.out.cb;have hw2c:w2.heap.size<=wc.heap.size:=HF8.out.mv.1;clear hps HO8 HP6 HPp HF7 HF8;go_wp2_with fail
  go_loopw [] (fun wr=>∃ (g:Nat) (acc:List ByteArray) (l':List Tk) (v:Value),Hid (zcq zd6 (l8.length+1) [] l8=zcq zd6 g acc l')/\l'.length+1<=g/\acc.length+l'.length<=l.length/\FSt R a cap ts w wc C 118 zhx #[.string nm,.bool pub,.slice a8 ps.length c8,v,.slice none 0 0] wr l'/\Row wc.heap.size 9 1 wr v acc.length (zaj acc)) (fun wr=>zhv R ts.length wr)
  case atStart=>exact ⟨_,[],l8,_,rfl,vaa _,by simp;omega,HW.out,Row.nil _ _ _ _⟩
  case round=>
   obtain ⟨g,acc,l',v,HG,hg,hacc,hF,hrow⟩:=hrel;have HF:=hid hF;have HO:=hid hrow;have HDl:Hid (zhv R ts.length wr=l'.length):=hF.rd.left
   obtain ⟨g,rfl⟩:∃ g',g=g'+1:=⟨g - 1,by omega⟩
   clear hF hrow HW;go_wp2_with fail
   cases hs:skB l' zd6 with
   | true =>
     refine (zbl R cap a ts l' zd6 wr (by decide) HF.out.rd hs).mono ?_;rintro e w3 ⟨rfl,HR3,HK3⟩;have hl3:=zah (by decide) hs;have hz3:=HK3.size;have HF3:=hid (HF.out.keeps HK3 HR3);have HO3:=hid (HO.out.keeps HK3 (by omega));obtain ⟨h0,h1,h2,hvw3,h4,h5⟩:=zaa HF3.out.cb;have hCw3:C<w3.heap.size:=lt_of_heap HF3.out.cb
     have besw3:Hid (∀ {b:Nat} {W:World},b<W.heap.size->False->w3.heap.size<=W.heap.size->zes wc.heap.size v b):=fun _ h _=>h.elim
     have hwz:wc.heap.size<=wr.heap.size:=HF.out.mv.1;clear HK3 HR3 HF HO;go_wp2_with fail
     cases hx:zde l'.tail with
     | none=>
       have HE:Hid (∀ w',Rd R a cap ts w' l'.tail->Calls Tryz.prog 196 #[.pointer (some ⟨R,0,none⟩)] w' fun e w''=>e = .panicked zag/\Keeps R w' w''):=fun w' h'=>by
        refine (zbv R cap a ts _ w' h').mono ?_;rintro e w'' ⟨hk,⟨_,rfl⟩ | ⟨_,_,_,h,_⟩⟩
        . exact ⟨rfl,hk⟩
        . rw [hx] at h;cases h
       have HP:Hid (ze8 l=none):=by show _=_;rw [HP8.out,HG.out];unfold zcq;rw [if_pos hs,hx]
       clear hx;go_wp2_with fail;refine wp_region_any (by kernel_rfl) ?_
       change wpAny _ _ _ _ _ _ _ (World.drew _)
       refine wpAny_take (i:=2) (v:=.pointer (some ⟨R,0,none⟩)) rfl (by kernel_rfl) (by kernel_rfl) (by kernel_rfl) (fun c a w h=>h) (Or.inl ⟨by rfl,fun w=>by go_simp⟩) ?_;refine wpAny_take (i:=0) (v:=.pointer (some ⟨C,3,none⟩)) rfl (by kernel_rfl) (by kernel_rfl) (by kernel_rfl) (fun c a w h=>h) (Or.inl ⟨by rfl,fun w=>by go_simp⟩) ?_;refine wpAny_ready (rs:=[1,3]) (by kernel_rfl) (by simp) ?_;refine veh rfl (fun K hK=>?_) (veh rfl (fun K hK=>?_) vej)
       . go_simp
         refine hK _ _ ?_;clear hK K;refine wpAny_ready (rs:=[3]) (by kernel_rfl) (by simp) ?_;refine veh rfl (fun K hK=>?_) vej;refine zbf (by rfl) 196 _ _ (by rfl) zd5 _ (by rfl) zag (HE.out _ HF3.out.rd.drew) ?_;intro w8 hk8;exact ⟨rfl,HF3.out.ke.drew.trans hk8,Or.inl ⟨HP.out,rfl⟩⟩
       . refine zbf (by rfl) 196 _ _ (by rfl) zd5 _ (by rfl) zag (HE.out _ HF3.out.rd.drew) ?_
         intro w8 hk8;exact ⟨rfl,HF3.out.ke.drew.trans hk8,Or.inl ⟨HP.out,rfl⟩⟩
     | some r=>
       obtain ⟨y,ly⟩:=r
       have HE:Hid (∀ w',Rd R a cap ts w' l'.tail->Calls Tryz.prog 196 #[.pointer (some ⟨R,0,none⟩)] w' fun e w''=>∃ u,e = .returned u/\(Keeps R w' w''/\(u = .string y/\y.size<=maxLen)/\Rd R a cap ts w'' ly)):=fun w' h'=>by
        refine (zbv R cap a ts _ w' h').mono ?_;rintro e w'' ⟨hk,⟨h,_⟩ | ⟨y',l',u,h,rfl,hr,hd⟩⟩
        . rw [hx] at h;cases h
        . rw [hx] at h
          obtain ⟨rfl,rfl⟩:=vao (vab h);exact ⟨u,rfl,hk,hr,hd⟩
       have HPy:Hid (zcq zd6 (l8.length+1) [] l8=if skB ly zhj then zcq zd6 g (acc++[y]) ly.tail else none):=by show _=_;rw [HG.out];unfold zcq;rw [if_pos hs,hx];cases g<;>rfl
       have hly:=zbk hx;clear hx;go_wp2_with fail
       go_region_law (first
        | (refine zb9 (by rfl) 196 _ _ (by rfl) zd5 _ (by rfl) (HE.out _ HF3.out.rd.drew) ?_
           rintro u8 w8 ⟨HK8,⟨rfl,hy8⟩,HR8⟩;have hz8:w3.heap.size<=w8.heap.size:=HK8.size;have HF8:=hid (HF3.out.drew.keeps HK8 HR8);have hc8:w8.cell? ⟨C,3,none⟩=some v:=(HK8.cell (show C<w3.heap.size from hCw3) (by omega)).trans hvw3
           have hq8:C<w8.heap.size:=by omega
           have HO8:Hid (Row wc.heap.size 9 1 w8 v acc.length (zaj acc)):=(HO3.out.keeps (Keeps.refl R w3).drew (by omega)).keeps HK8 (by omega))
        | (refine zbj (by rfl) _ _ 22 (by rfl) wc.heap.size 9 _ 1 16 Tryz.underlying22 Tryz.infoP9 rfl (by decide) w8 _ acc.length (zaj acc) [.str y] (by rfl) HO8.out #[.string y] _ rfl (by rfl) rfl (fun _=>False) (.cons (zxa hy8) .nil) (fun b hb hA=>?_) (by omega) (by decide) (by omega) ?_
           focus (exact besw3.out hb hA hz8)
           intro g9 c9 w9 HO9 HB9 hz9;obtain ⟨k0,k1,k2,k3,k4,k5⟩:=zaa (HF8.out.belowB HB9 (by omega)).cb
           have hq9:C<w9.heap.size:=by omega
           have HF9:=hid ((HF8.out.belowB HB9 (by omega)).put 3 (.slice (some ⟨g9,0,none⟩) (acc.length+1) c9))
           have HO9':=hid (HO9.set (p:=⟨C,3,none⟩) (by show C<wc.heap.size;omega) (.slice (some ⟨g9,0,none⟩) (acc.length+1) c9))))
       all_goals
        clear HE;go_wp2_with fail
        have hz10:(w9.setCell ⟨C,3,none⟩ (.slice (some ⟨g9,0,none⟩) (acc.length+1) c9)).heap.size=w9.heap.size:=by simp only [vaq]
        generalize w9.setCell ⟨C,3,none⟩ (.slice (some ⟨g9,0,none⟩) (acc.length+1) c9)=w10 at *;refine (zfk R cap _ a ts ly zhj w10 (by omega) HF9.out.rd (by decide)).mono ?_;rintro e z1 ⟨ZK,⟨zs,rfl⟩ | ⟨zs,rfl,ZR⟩⟩
        . exact ⟨rfl,HF9.out.ke.trans ZK,Or.inl ⟨by rw [HP8.out,HPy.out,if_neg (by simp [zs])],rfl⟩⟩
        have HFz:=hid (HF9.out.keeps ZK ZR);have HOz:=hid (HO9'.out.keeps ZK (by omega));have hlz:=zah (by decide) zs
        have HPz:Hid (zcq zd6 (l8.length+1) [] l8=zcq zd6 g (acc++[y]) ly.tail):=by show _=_;rw [HPy.out,if_pos zs]
        clear ZK ZR zs HPy HF9 HO9';go_wp2_with fail;go_roundw
        case rel=>exact ⟨g,acc++[y],ly.tail,_,HPz,by simp;omega,by simp;omega,HFz.out,by rw [vam];rw [show zaj (acc++[y])=zaj acc++[.str y] from by simp [zaj]];exact HOz.out⟩
        case measure=>rw [HFz.out.rd.left,HDl.out];simp;omega
   | false=>
     refine (zb2 R cap a ts l' zd6 wr HF.out.rd hs).mono ?_;rintro e w3 ⟨rfl,HR3,HK3⟩;have HF3:=hid (HF.out.keeps HK3 HR3);have HO3:=hid (HO.out.keeps HK3 (by omega))
     have HP3:Hid (ze8 l=(match pB l' with | none=>none | some (b,l4)=>some (⟨nm,pub,ps,acc,b⟩,l4))):=by show _=_;rw [HP8.out,HG.out];unfold zcq;rw [if_neg (by simp [hs])]
     obtain ⟨a3,c3,rfl,hls⟩:=HO3.out.slice;have HLs:=hid hls;have hwz:wc.heap.size<=wr.heap.size:=HF.out.mv.1;have hz3:=HK3.size;clear HK3 HR3 HF HO hs hls HP8 HG;go_wp2_with fail;refine (zqv R cap a ts l' w3 HF3.out.rd).mono ?_;rintro e w4 ⟨KK,⟨hn,rfl⟩ | ⟨b,l4,v,hn,rfl,⟨a4,c4,rfl,hb4⟩,RD⟩⟩
     . exact ⟨rfl,HF3.out.ke.trans KK,Or.inl ⟨by rw [HP3.out,hn],rfl⟩⟩
     have HPE:Hid (ze8 l=some (⟨nm,pub,ps,acc,b⟩,l4)):=by show _=_;rw [HP3.out,hn]
     have HF4:=hid (HF3.out.keeps KK RD);have hz4:=KK.size;have hC3:C<w3.heap.size:=lt_of_heap HF3.out.cb;have HF5:Hid (FSt R a cap ts w wc C 118 zhx #[.string nm,.bool pub,.slice a8 ps.length c8,.slice a3 acc.length c3,.slice a4 b.length c4] (w4.setCell ⟨C,4,none⟩ (.slice a4 b.length c4)) l4):=HF4.out.put 4 (.slice a4 b.length c4);have hm4:zad w3 (C<·) (w4.setCell ⟨C,4,none⟩ (.slice a4 b.length c4)) (C<·):=((zad.refl w3 _).keeps KK (fun k _ hk=>by have:=HF3.out.hC;omega)).set (fun k _ hk=>by show k≠C;omega) _;have H1:Hid (EAt (w4.setCell ⟨C,4,none⟩ (.slice a4 b.length c4)) (C<·) a8 ps.length (zaj ps)):=HF5.out.at HPs.out (by omega);have H2:Hid (EAt (w4.setCell ⟨C,4,none⟩ (.slice a4 b.length c4)) (C<·) a3 acc.length (zaj acc)):=HLs.out.moves ⟨hm4.1,fun k h1 h2=>⟨by omega,(hm4.2 k h1 (by omega)).2⟩⟩;have H3:Hid (EAt (w4.setCell ⟨C,4,none⟩ (.slice a4 b.length c4)) (C<·) a4 b.length (zbp b)):=hb4.moves (((zad.refl w4 _).set (fun k _ hk=>by show k≠C;omega) _).trans ⟨vaa _,fun k _ hk=>⟨by omega,rfl⟩⟩)
     have HFin:=hid (z7n (p:=⟨nm,pub,ps,acc,b⟩) HF5.out HPE.out hnm H1.out H2.out H3.out);obtain ⟨h0,h1,h2,h3,h4,h5⟩:=zaa HF4.out.cb;obtain ⟨g0,g1,g2,g3,g4,g5⟩:=zaa HF4.out.zb
     have hne:w.heap.size≠C:=by have:=HF4.out.hC;omega
     clear KK RD hn HF3 HF4 HF5 hb4 hm4 HLs H1 H2 H3 HP3 HPE;go_wp2_with fail;refine bodyPost_ret (v:=.agg #[.string nm,.bool pub,.slice a8 ps.length c8,.slice a3 acc.length c3,.slice a4 b.length c4]) (by simp [results,Tryz.results200,go_sem,g0,g1,g2,g3,g4]) rfl HFin.out
set_option maxHeartbeats 16000000
def pM3 (n:ByteArray) (us:List ByteArray) (ds:List De) (l3:List Tk):Option (Mo × List Tk):=match zfa (l3.length+1) [] l3 with
 | none=>none
 | some (ps,l4)=>(match pB l4 with
   | none=>none
   | some (b,l5)=>if skB l5 tRb then some (⟨n,us,ds,ps,b⟩,l5.tail) else none)
def pM2 (n:ByteArray) (us:List ByteArray) (l2:List Tk):Option (Mo × List Tk):=match ze9 (l2.length+1) [] l2 with
 | none=>none
 | some (ds,l3)=>pM3 n us ds l3
def pM1 (n:ByteArray) (l1:List Tk):Option (Mo × List Tk):=match zcq zt0 (l1.length+1) [] l1 with
 | none=>none
 | some (us,l2)=>pM2 n us l2
theorem zv9 (l:List Tk):zcc l=if skB l zn2 then (match zde l.tail with | none=>none | some (n,l1)=>if skB l1 tLb then pM1 n l1.tail else none) else none:=by
 unfold zcc pM1 pM2 pM3;rfl
def zow (A:Nat->Prop) (m:Mo) (w:World) (v:Value):Prop:=∃ a1 c1 a2 c2 a3 c3 a4 c4,v = .agg #[.string m.name,.slice a1 m.uses.length c1,.slice a2 m.decls.length c2,.slice a3 m.procs.length c3,.slice a4 m.main.length c4]/\m.name.size<=maxLen/\EAt w A a1 m.uses.length (zaj m.uses)/\EAt w A a2 m.decls.length (zj0 m.decls)/\EAt w A a3 m.procs.length (zhz m.procs)/\EAt w A a4 m.main.length (zbp m.main)
abbrev zcw:Obj:=.cells #[.string ⟨#[]⟩,.slice none 0 0,.slice none 0 0,.slice none 0 0,.slice none 0 0] 27 (0,0)
theorem zsx:Enters Tryz.prog 199:=enters_of Tryz.func199 (by kernel_rfl) rfl
theorem zsy:Enters Tryz.prog 200:=enters_of Tryz.func200 (by kernel_rfl) rfl
theorem z15 {A:Nat->Prop} {w:World} {d:De} (h:d.name.size<=maxLen):zau w A d.ds [.int .i64 d.kind,.string d.name,.bool d.pub,.int .i64 d.n]:=.cons zpw (.cons (zxa h) (.cons z7t (.cons zpw .nil)))
theorem z16 {A:Nat->Prop} {w:World} {p:Pr} {a1 a2 a3:OA} {c1 c2 c3:Nat} (h:p.name.size<=maxLen) (h1:EAt w A a1 p.params.length (zaj p.params)) (h2:EAt w A a2 p.locals.length (zaj p.locals)) (h3:EAt w A a3 p.body.length (zbp p.body)):zau w A p.ds [.string p.name,.bool p.pub,.slice a1 p.params.length c1,.slice a2 p.locals.length c2,.slice a3 p.body.length c3]:=
 .cons (zxa h) (.cons z7t (.cons h1.val (.cons h2.val (.cons h3.val .nil))))
theorem z7o {R cap C:Nat} {a:OA} {ts l':List Tk} {w ws wr:World} {r:Option (Mo × List Tk)} {m:Mo} {a1 a2 a3 a4:OA} {c1 c2 c3 c4:Nat} (h:FSt R a cap ts w ws C 27 zcw #[.string m.name,.slice a1 m.uses.length c1,.slice a2 m.decls.length c2,.slice a3 m.procs.length c3,.slice a4 m.main.length c4] wr l') (hr:r=some (m,l')) (hn:m.name.size<=maxLen) (h1:EAt wr (C<·) a1 m.uses.length (zaj m.uses)) (h2:EAt wr (C<·) a2 m.decls.length (zj0 m.decls)) (h3:EAt wr (C<·) a3 m.procs.length (zhz m.procs)) (h4:EAt wr (C<·) a4 m.main.length (zbp m.main)) :
 zd4 R a cap ts w r (zow (w.heap.size<=·)) (.returned (.agg #[.string m.name,.slice a1 m.uses.length c1,.slice a2 m.decls.length c2,.slice a3 m.procs.length c3,.slice a4 m.main.length c4])) (set5 wr w.heap.size (.string m.name) (.slice a1 m.uses.length c1) (.slice a2 m.decls.length c2) (.slice a3 m.procs.length c3) (.slice a4 m.main.length c4)):=by
 obtain ⟨l0,h0⟩:=h.r0;have hC:=h.hC
 have hm:zad wr (C<·) (set5 wr w.heap.size (.string m.name) (.slice a1 m.uses.length c1) (.slice a2 m.decls.length c2) (.slice a3 m.procs.length c3) (.slice a4 m.main.length c4)) (w.heap.size<=·):=
  (((zad.refl wr (C<·)).set5 (b:=w.heap.size) (fun b _ hb=>by omega) _ _ _ _ _)).trans ⟨vaa _,fun b _ hb=>⟨by omega,rfl⟩⟩
 exact ⟨h.ke.set5 (vaa _) _ _ _ _ _,Or.inr ⟨m,l',_,hr,rfl,⟨a1,c1,a2,c2,a3,c3,a4,c4,rfl,hn,h1.moves hm,h2.moves hm,h3.moves hm,h4.moves hm⟩,h.rd.set5 h0 (vaa _) _ _ _ _ _⟩⟩
theorem low {w:World} {lo C n:Nat} {a:OA} {ds:List D} (h:EAt w (lo<=·) a n ds) (hl:C<lo):EAt w (C<·) a n ds:=h.moves ⟨vaa _,fun _ _ hb=>⟨vah hl hb,rfl⟩⟩
theorem zwa (R cap:Nat) (a:OA) (ts l:List Tk) (w:World) (h:Rd R a cap ts w l) :
 Calls Tryz.prog 159 #[.pointer (some ⟨R,0,none⟩)] w (zd4 R a cap ts w (zcc l) (zow (w.heap.size<=·))):=by
 have HR:Hid (Rd R a cap ts w l):=h;have hRw:=h.lt
 have hlts:l.length<=4096:=by
  obtain ⟨k,_,rfl,_⟩:=h.idx;have:=h.len
  rw [vbv];omega
 have HP0:=hid (zv9 l);clear h;go_enter Tryz.func159,Tryz.ntmps159;go_wp2_with fail
 obtain ⟨w2,hw2⟩:∃ w2,w2=(w.alloc zcw).alloc zcw:=⟨_,rfl⟩
 have hz2:w2.heap.size=w.heap.size+1+1:=by rw [hw2];simp
 have HF2:Hid (FSt R a cap ts w w2 (w.heap.size+1) 27 zcw #[.string ⟨#[]⟩,.slice none 0 0,.slice none 0 0,.slice none 0 0,.slice none 0 0] w2 l):=
  ⟨by rw [hw2];exact (HR.out.alloc _).alloc _,by rw [hw2];exact ((Keeps.refl R w).alloc _).alloc _,by rw [hw2];exact zab (heap_newP _ _),by rw [hw2];have:=heap_newP (w.alloc zcw) zcw;simpa using this,zad.refl _ _,hRw,by omega,by omega,l,HR.out⟩
 rw [← hw2];clear hw2;generalize hC:w.heap.size+1=C at *;refine (zfk R cap _ a ts l zn2 w2 hz2.symm HF2.out.rd (by decide)).mono ?_;rintro e w3 ⟨KK,⟨s1,rfl⟩ | ⟨s1,rfl,RD⟩⟩
 . exact ⟨rfl,HF2.out.ke.trans KK,Or.inl ⟨by rw [HP0.out,if_neg (by simp [s1])],rfl⟩⟩
 have HF3:=hid (HF2.out.keeps KK RD);have hz3:=KK.size;have hl3:=zah (by decide) s1;clear RD KK HF2;go_wp2_with fail;refine (zbv R cap a ts l.tail w3 HF3.out.rd).mono ?_;rintro e w4 ⟨KK,⟨hn,rfl⟩ | ⟨nm,l4,v,hn,rfl,⟨rfl,hnm⟩,RD⟩⟩
 . exact ⟨rfl,HF3.out.ke.trans KK,Or.inl ⟨by rw [HP0.out,if_pos s1,hn],rfl⟩⟩
 have HP4:Hid (zcc l=if skB l4 tLb then pM1 nm l4.tail else none):=by show _=_;rw [HP0.out,if_pos s1,hn]
 have HF4:=hid (HF3.out.keeps KK RD);have hz4:=KK.size;have hl4:=zbk hn;clear RD KK HF3 hn s1 HP0;have HF5:=hid (HF4.out.put 0 (.string nm))
 have hz5:(w4.setCell ⟨C,0,none⟩ (.string nm)).heap.size=w4.heap.size:=by simp only [vaq]
 obtain ⟨h0,h1,h2,h3,h4,h5⟩:=zaa HF4.out.cb;have hq4:C<w4.heap.size:=lt_of_heap HF4.out.cb;go_wp2_with fail;generalize w4.setCell ⟨C,0,none⟩ (.string nm)=w5 at *;clear h0 h1 h2 h3 h4 h5 HF4;refine (zfk R cap _ a ts l4 tLb w5 (by omega) HF5.out.rd (by decide)).mono ?_;rintro e w6 ⟨KK,⟨s1,rfl⟩ | ⟨s1,rfl,RD⟩⟩
 . exact ⟨rfl,HF5.out.ke.trans KK,Or.inl ⟨by rw [HP4.out,if_neg (by simp [s1])],rfl⟩⟩
 have HP6:Hid (zcc l=pM1 nm l4.tail):=by show _=_;rw [HP4.out,if_pos s1]
 have HF6:Hid (FSt R a cap ts w w2 C 27 zcw #[.string nm,.slice none 0 0,.slice none 0 0,.slice none 0 0,.slice none 0 0] w6 l4.tail):=HF5.out.keeps KK RD;have hz6:=KK.size;have hl5:=zah (by decide) s1;clear RD KK HF5 s1 HP4;generalize hl6:l4.tail=l6 at *
 have hl6':l6.length<l.length:=by omega
 have HW:=hid HF6.out.restart;have hC6:C<w6.heap.size:=lt_of_heap HF6.out.cb;have hz26:w2.heap.size<=w6.heap.size:=HF6.out.mv.1;clear HF6 hl6 hl3 hl4 hl5;go_wp2_with fail
 go_loopw [] (fun wr=>∃ (g:Nat) (acc:List ByteArray) (l':List Tk) (v:Value),Hid (zcq zt0 (l6.length+1) [] l6=zcq zt0 g acc l')/\l'.length+1<=g/\acc.length+l'.length<=l.length/\FSt R a cap ts w w6 C 27 zcw #[.string nm,v,.slice none 0 0,.slice none 0 0,.slice none 0 0] wr l'/\Row w6.heap.size 9 1 wr v acc.length (zaj acc)) (fun wr=>zhv R ts.length wr)
 case atStart=>exact ⟨_,[],l6,_,rfl,vaa _,by simp;omega,HW.out,Row.nil _ _ _ _⟩
 case round =>
  obtain ⟨g,acc,l',v,HG,hg,hacc,hF,hrow⟩:=hrel;have HF:=hid hF;have HO:=hid hrow;have HDl:Hid (zhv R ts.length wr=l'.length):=hF.rd.left
  obtain ⟨g,rfl⟩:∃ g',g=g'+1:=⟨g - 1,by omega⟩
  clear hF hrow HW;go_wp2_with fail
  cases hs:skB l' zt0 with
  | true =>
    refine (zbl R cap a ts l' zt0 wr (by decide) HF.out.rd hs).mono ?_;rintro e w7 ⟨rfl,HR3,HK3⟩;have hl3:=zah (by decide) hs;have hz7:=HK3.size;have HF7:=hid (HF.out.keeps HK3 HR3);have HO7:=hid (HO.out.keeps HK3 (by omega));obtain ⟨h0,hvw7,h2,h3,h4,h5⟩:=zaa HF7.out.cb;have hCw7:C<w7.heap.size:=lt_of_heap HF7.out.cb
    have besw7:Hid (∀ {b:Nat} {W:World},b<W.heap.size->False->w7.heap.size<=W.heap.size->zes w6.heap.size v b):=fun _ h _=>h.elim
    have hwz:w6.heap.size<=wr.heap.size:=HF.out.mv.1;clear HK3 HR3 HF HO;go_wp2_with fail
    cases hx:zde l'.tail with
    | none=>
      have HE:Hid (∀ w',Rd R a cap ts w' l'.tail->Calls Tryz.prog 196 #[.pointer (some ⟨R,0,none⟩)] w' fun e w''=>e = .panicked zag/\Keeps R w' w''):=fun w' h'=>by
       refine (zbv R cap a ts _ w' h').mono ?_;rintro e w'' ⟨hk,⟨_,rfl⟩ | ⟨_,_,_,h,_⟩⟩
       . exact ⟨rfl,hk⟩
       . rw [hx] at h;cases h
      have HP:Hid (zcc l=none):=by show _=_;rw [HP6.out];unfold pM1;rw [HG.out];unfold zcq;rw [if_pos hs,hx]
      clear hx;go_wp2_with fail;refine wp_region_any (by kernel_rfl) ?_
      change wpAny _ _ _ _ _ _ _ (World.drew _)
      refine wpAny_take (i:=2) (v:=.pointer (some ⟨R,0,none⟩)) rfl (by kernel_rfl) (by kernel_rfl) (by kernel_rfl) (fun c a w h=>h) (Or.inl ⟨by rfl,fun w=>by go_simp⟩) ?_;refine wpAny_take (i:=0) (v:=.pointer (some ⟨C,1,none⟩)) rfl (by kernel_rfl) (by kernel_rfl) (by kernel_rfl) (fun c a w h=>h) (Or.inl ⟨by rfl,fun w=>by go_simp⟩) ?_;refine wpAny_ready (rs:=[1,3]) (by kernel_rfl) (by simp) ?_;refine veh rfl (fun K hK=>?_) (veh rfl (fun K hK=>?_) vej)
      . go_simp
        refine hK _ _ ?_;clear hK K;refine wpAny_ready (rs:=[3]) (by kernel_rfl) (by simp) ?_;refine veh rfl (fun K hK=>?_) vej;refine zbf (by rfl) 196 _ _ (by rfl) zd5 _ (by rfl) zag (HE.out _ HF7.out.rd.drew) ?_;intro w8 hk8;exact ⟨rfl,HF7.out.ke.drew.trans hk8,Or.inl ⟨HP.out,rfl⟩⟩
      . refine zbf (by rfl) 196 _ _ (by rfl) zd5 _ (by rfl) zag (HE.out _ HF7.out.rd.drew) ?_
        intro w8 hk8;exact ⟨rfl,HF7.out.ke.drew.trans hk8,Or.inl ⟨HP.out,rfl⟩⟩
    | some r=>
      obtain ⟨y,ly⟩:=r
      have HE:Hid (∀ w',Rd R a cap ts w' l'.tail->Calls Tryz.prog 196 #[.pointer (some ⟨R,0,none⟩)] w' fun e w''=>∃ u,e = .returned u/\(Keeps R w' w''/\(u = .string y/\y.size<=maxLen)/\Rd R a cap ts w'' ly)):=fun w' h'=>by
       refine (zbv R cap a ts _ w' h').mono ?_;rintro e w'' ⟨hk,⟨h,_⟩ | ⟨y',l',u,h,rfl,hr,hd⟩⟩
       . rw [hx] at h;cases h
       . rw [hx] at h
         obtain ⟨rfl,rfl⟩:=vao (vab h);exact ⟨u,rfl,hk,hr,hd⟩
      have HPy:Hid (zcq zt0 (l6.length+1) [] l6=if skB ly zhj then zcq zt0 g (acc++[y]) ly.tail else none):=by show _=_;rw [HG.out];unfold zcq;rw [if_pos hs,hx];cases g<;>rfl
      have hly:=zbk hx;clear hx;go_wp2_with fail
      go_region_law (first
       | (refine zb9 (by rfl) 196 _ _ (by rfl) zd5 _ (by rfl) (HE.out _ HF7.out.rd.drew) ?_
          rintro u8 w8 ⟨HK8,⟨rfl,hy8⟩,HR8⟩;have hz8:w7.heap.size<=w8.heap.size:=HK8.size;have HF8:=hid (HF7.out.drew.keeps HK8 HR8);have hc8:w8.cell? ⟨C,1,none⟩=some v:=(HK8.cell (show C<w7.heap.size from hCw7) (by omega)).trans hvw7
          have hq8:C<w8.heap.size:=by omega
          have HO8:Hid (Row w6.heap.size 9 1 w8 v acc.length (zaj acc)):=(HO7.out.keeps (Keeps.refl R w7).drew (by omega)).keeps HK8 (by omega))
       | (refine zbj (by rfl) _ _ 22 (by rfl) w6.heap.size 9 _ 1 16 Tryz.underlying22 Tryz.infoP9 rfl (by decide) w8 _ acc.length (zaj acc) [.str y] (by rfl) HO8.out #[.string y] _ rfl (by rfl) rfl (fun _=>False) (.cons (zxa hy8) .nil) (fun b hb hA=>?_) (by omega) (by decide) (by omega) ?_
          focus (exact besw7.out hb hA hz8)
          intro g9 c9 w9 HO9 HB9 hz9;obtain ⟨k0,k1,k2,k3,k4,k5⟩:=zaa (HF8.out.belowB HB9 (by omega)).cb
          have hq9:C<w9.heap.size:=by omega
          have HF9:=hid ((HF8.out.belowB HB9 (by omega)).put 1 (.slice (some ⟨g9,0,none⟩) (acc.length+1) c9))
          have HO9':=hid (HO9.set (p:=⟨C,1,none⟩) (by show C<w6.heap.size;omega) (.slice (some ⟨g9,0,none⟩) (acc.length+1) c9))))
      all_goals
       clear HE;go_wp2_with fail
       have hz10:(w9.setCell ⟨C,1,none⟩ (.slice (some ⟨g9,0,none⟩) (acc.length+1) c9)).heap.size=w9.heap.size:=by simp only [vaq]
       generalize w9.setCell ⟨C,1,none⟩ (.slice (some ⟨g9,0,none⟩) (acc.length+1) c9)=w10 at *;refine (zfk R cap _ a ts ly zhj w10 (by omega) HF9.out.rd (by decide)).mono ?_;rintro e z1 ⟨ZK,⟨zs,rfl⟩ | ⟨zs,rfl,ZR⟩⟩
       . exact ⟨rfl,HF9.out.ke.trans ZK,Or.inl ⟨by rw [HP6.out];unfold pM1;rw [HPy.out,if_neg (by simp [zs])],rfl⟩⟩
       have HFz:=hid (HF9.out.keeps ZK ZR);have HOz:=hid (HO9'.out.keeps ZK (by omega));have hlz:=zah (by decide) zs
       have HPz:Hid (zcq zt0 (l6.length+1) [] l6=zcq zt0 g (acc++[y]) ly.tail):=by show _=_;rw [HPy.out,if_pos zs]
       clear ZK ZR zs HPy HF9 HO9';go_wp2_with fail;go_roundw
       case rel=>exact ⟨g,acc++[y],ly.tail,_,HPz,by simp;omega,by simp;omega,HFz.out,by rw [vam];rw [show zaj (acc++[y])=zaj acc++[.str y] from by simp [zaj]];exact HOz.out⟩
       case measure=>rw [HFz.out.rd.left,HDl.out];simp;omega
  | false =>
    refine (zb2 R cap a ts l' zt0 wr HF.out.rd hs).mono ?_;rintro e w7 ⟨rfl,HR3,HK3⟩;have HF7:=hid (HF.out.keeps HK3 HR3);have HO7:=hid (HO.out.keeps HK3 (by omega))
    have HP7:Hid (zcc l=pM2 nm acc l'):=by show _=_;rw [HP6.out];unfold pM1;rw [HG.out];unfold zcq;rw [if_neg (by simp [hs])]
    obtain ⟨a7,c7,rfl,hls⟩:=HO7.out.slice;have HUs:Hid (EAt w7 (C<·) a7 acc.length (zaj acc)):=low hls (by omega);have hwz:w6.heap.size<=wr.heap.size:=HF.out.mv.1;have hz7:=HK3.size;have HW:=hid HF7.out.restart;have hC7:C<w7.heap.size:=lt_of_heap HF7.out.cb
    have hacc':l'.length<=l.length:=by omega
    clear HK3 HR3 HF HO hs hls HG HP6 HF7 HO7 HDl hacc hg g;generalize hus:acc=us at *;generalize hl7:l'=l7 at *;clear hus hl7;go_wp2_with fail
    go_loopw [] (fun wr=>∃ (g:Nat) (acc:List De) (l':List Tk) (v:Value),Hid (ze9 (l7.length+1) [] l7=ze9 g acc l')/\l'.length+1<=g/\acc.length+l'.length<=l.length/\FSt R a cap ts w w7 C 27 zcw #[.string nm,.slice a7 us.length c7,v,.slice none 0 0,.slice none 0 0] wr l'/\Row w7.heap.size 170 4 wr v acc.length (zj0 acc)) (fun wr=>zhv R ts.length wr)
    case atStart=>exact ⟨_,[],l7,_,rfl,vaa _,by simp;omega,HW.out,Row.nil _ _ _ _⟩
    case round =>
     obtain ⟨g,acc,l',v,HG,hg,hacc,hF,hrow⟩:=hrel;have HF:=hid hF;have HO:=hid hrow;have HDl:Hid (zhv R ts.length wr=l'.length):=hF.rd.left
     obtain ⟨g,rfl⟩:∃ g',g=g'+1:=⟨g - 1,by omega⟩
     clear hF hrow HW;go_wp2_with fail;refine (zov R cap a ts l' wr HF.out.rd).mono ?_
     cases hs:zv8 l' with
     | true =>
       rintro e w13 ⟨rfl,hb13⟩;have hz13:=hb13.size;have HF13:=hid (HF.out.later hb13);have HO13:=hid (HO.out.later hb13);obtain ⟨h0,h1,hvw13,h3,h4,h5⟩:=zaa HF13.out.cb;have hCw13:C<w13.heap.size:=lt_of_heap HF13.out.cb
       have besw13:Hid (∀ {b:Nat} {W:World},b<W.heap.size->False->w13.heap.size<=W.heap.size->zes w7.heap.size v b):=fun _ h _=>h.elim
       have hwz:w7.heap.size<=wr.heap.size:=HF.out.mv.1;clear hb13 HF HO;go_wp2_with fail
       cases hx:zbw l' with
       | none=>
         have HE:Hid (∀ w',Rd R a cap ts w' l'->Calls Tryz.prog 199 #[.pointer (some ⟨R,0,none⟩)] w' fun e w''=>e = .panicked zag/\Keeps R w' w''):=fun w' h'=>by
          refine (zuv R cap a ts _ w' h').mono ?_;rintro e w'' ⟨hk,⟨_,rfl⟩ | ⟨_,_,_,h,_⟩⟩
          . exact ⟨rfl,hk⟩
          . rw [hx] at h;cases h
         have HP:Hid (zcc l=none):=by show _=_;rw [HP7.out];unfold pM2;rw [HG.out];unfold ze9;rw [if_pos hs,hx]
         clear hx;go_wp2_with fail;refine wp_region_any (by kernel_rfl) ?_
         change wpAny _ _ _ _ _ _ _ (World.drew _)
         refine wpAny_take (i:=2) (v:=.pointer (some ⟨R,0,none⟩)) rfl (by kernel_rfl) (by kernel_rfl) (by kernel_rfl) (fun c a w h=>h) (Or.inl ⟨by rfl,fun w=>by go_simp⟩) ?_;refine wpAny_take (i:=0) (v:=.pointer (some ⟨C,2,none⟩)) rfl (by kernel_rfl) (by kernel_rfl) (by kernel_rfl) (fun c a w h=>h) (Or.inl ⟨by rfl,fun w=>by go_simp⟩) ?_;refine wpAny_ready (rs:=[1,3]) (by kernel_rfl) (by simp) ?_;refine veh rfl (fun K hK=>?_) (veh rfl (fun K hK=>?_) vej)
         . go_simp
           refine hK _ _ ?_;clear hK K;refine wpAny_ready (rs:=[3]) (by kernel_rfl) (by simp) ?_;refine veh rfl (fun K hK=>?_) vej;refine zbf (by rfl) 199 _ _ (by rfl) zsx _ (by rfl) zag (HE.out _ HF13.out.rd.drew) ?_;intro w8 hk8;exact ⟨rfl,HF13.out.ke.drew.trans hk8,Or.inl ⟨HP.out,rfl⟩⟩
         . refine zbf (by rfl) 199 _ _ (by rfl) zsx _ (by rfl) zag (HE.out _ HF13.out.rd.drew) ?_
           intro w8 hk8;exact ⟨rfl,HF13.out.ke.drew.trans hk8,Or.inl ⟨HP.out,rfl⟩⟩
       | some r=>
         obtain ⟨y,ly⟩:=r
         have HE:Hid (∀ w',Rd R a cap ts w' l'->Calls Tryz.prog 199 #[.pointer (some ⟨R,0,none⟩)] w' fun e w''=>∃ u,e = .returned u/\(Keeps R w' w''/\zzi y w'' u/\Rd R a cap ts w'' ly)):=fun w' h'=>by
          refine (zuv R cap a ts _ w' h').mono ?_;rintro e w'' ⟨hk,⟨h,_⟩ | ⟨y',l',u,h,rfl,hr,hd⟩⟩
          . rw [hx] at h;cases h
          . rw [hx] at h
            obtain ⟨rfl,rfl⟩:=vao (vab h);exact ⟨u,rfl,hk,hr,hd⟩
         have HPy:Hid (ze9 (l7.length+1) [] l7=ze9 g (acc++[y]) ly):=by show _=_;rw [HG.out];unfold ze9;rw [if_pos hs,hx];cases g<;>rfl
         have hly:=zus hx;clear hx;go_wp2_with fail
         go_region_law (first
          | (refine zb9 (by rfl) 199 _ _ (by rfl) zsx _ (by rfl) (HE.out _ HF13.out.rd.drew) ?_
             rintro u8 w8 ⟨HK8,⟨rfl,hy8⟩,HR8⟩;have hz8:w13.heap.size<=w8.heap.size:=HK8.size;have HF8:=hid (HF13.out.drew.keeps HK8 HR8);have hc8:w8.cell? ⟨C,2,none⟩=some v:=(HK8.cell (show C<w13.heap.size from hCw13) (by omega)).trans hvw13
             have hq8:C<w8.heap.size:=by omega
             have HO8:Hid (Row w7.heap.size 170 4 w8 v acc.length (zj0 acc)):=(HO13.out.keeps (Keeps.refl R w13).drew (by omega)).keeps HK8 (by omega))
          | (refine zbj (by rfl) _ _ 23 (by rfl) w7.heap.size 170 _ 4 40 Tryz.underlying23 Tryz.infoP56 rfl (by decide) w8 _ acc.length (zj0 acc) y.ds (by rfl) HO8.out #[.int .i64 y.kind,.string y.name,.bool y.pub,.int .i64 y.n] _ rfl (by rfl) rfl (fun _=>False) (z15 hy8) (fun b hb hA=>?_) (by omega) (by decide) (by omega) ?_
             focus (exact besw13.out hb hA hz8)
             intro g9 c9 w9 HO9 HB9 hz9;obtain ⟨k0,k1,k2,k3,k4,k5⟩:=zaa (HF8.out.belowB HB9 (by omega)).cb
             have hq9:C<w9.heap.size:=by omega
             have HF9:=hid ((HF8.out.belowB HB9 (by omega)).put 2 (.slice (some ⟨g9,0,none⟩) (acc.length+1) c9))
             have HO9':=hid (HO9.set (p:=⟨C,2,none⟩) (by show C<w7.heap.size;omega) (.slice (some ⟨g9,0,none⟩) (acc.length+1) c9))))
         all_goals
          clear HE;go_wp2_with fail;go_roundw
          case rel=>exact ⟨g,acc++[y],ly,_,HPy,by omega,by simp;omega,HF9.out,by rw [vam];rw [show zj0 (acc++[y])=zj0 acc++y.ds from by simp [zj0]];exact HO9'.out⟩
          case measure=>rw [HF9.out.rd.left,HDl.out];omega
     | false =>
       rintro e w13 ⟨rfl,hb13⟩;have HF13:=hid (HF.out.later hb13);have HO13:=hid (HO.out.later hb13)
       have HP13:Hid (zcc l=pM3 nm us acc l'):=by show _=_;rw [HP7.out];unfold pM2;rw [HG.out];unfold ze9;rw [if_neg (by simp [hs])]
       obtain ⟨a13,c13,rfl,hls⟩:=HO13.out.slice;have hwz:w7.heap.size<=wr.heap.size:=HF.out.mv.1;have hz13:=hb13.size;have HDs:Hid (EAt w13 (C<·) a13 acc.length (zj0 acc)):=low hls (by omega);have HUs':Hid (EAt w13 (C<·) a7 us.length (zaj us)):=HF13.out.at' HUs.out;have HW:=hid HF13.out.restart;have hC13:C<w13.heap.size:=lt_of_heap HF13.out.cb
       have hacc':l'.length<=l.length:=by omega
       clear hb13 HF HO hs hls HG HP7 HF13 HO13 HDl hacc hg g HUs;generalize hds:acc=ds at *;generalize hl13:l'=l13 at *;clear hds hl13;go_wp2_with fail
       go_loopw [] (fun wr=>∃ (g:Nat) (acc:List Pr) (l':List Tk) (v:Value),Hid (zfa (l13.length+1) [] l13=zfa g acc l')/\l'.length+1<=g/\acc.length+l'.length<=l.length/\FSt R a cap ts w w13 C 27 zcw #[.string nm,.slice a7 us.length c7,.slice a13 ds.length c13,v,.slice none 0 0] wr l'/\Row w13.heap.size 118 5 wr v acc.length (zhz acc)) (fun wr=>zhv R ts.length wr)
       case atStart=>exact ⟨_,[],l13,_,rfl,vaa _,by simp;omega,HW.out,Row.nil _ _ _ _⟩
       case round=>
        obtain ⟨g,acc,l',v,HG,hg,hacc,hF,hrow⟩:=hrel;have HF:=hid hF;have HO:=hid hrow;have HDl:Hid (zhv R ts.length wr=l'.length):=hF.rd.left
        obtain ⟨g,rfl⟩:∃ g',g=g'+1:=⟨g - 1,by omega⟩
        clear hF hrow HW;go_wp2_with fail
        cases hs:skB l' zrs with
        | false =>
          refine (zb2 R cap a ts l' zrs wr HF.out.rd hs).mono ?_;rintro e w23 ⟨rfl,HR3,HK3⟩;have hz23:=HK3.size;have HF23:=hid (HF.out.keeps HK3 HR3);have HO23:=hid (HO.out.keeps HK3 (by omega));obtain ⟨h0,h1,h2,hvw23,h4,h5⟩:=zaa HF23.out.cb;have hCw23:C<w23.heap.size:=lt_of_heap HF23.out.cb;have hwz:w13.heap.size<=wr.heap.size:=HF.out.mv.1
          have besw23:Hid (∀ {b:Nat} {W:World},b<W.heap.size->w23.heap.size<=b->w23.heap.size<=W.heap.size->zes w13.heap.size v b):=fun {b} _ _ h _=>⟨by omega,fun e=>by have:=(HO23.out.lt b e).2;omega⟩
          clear HK3 HR3 HF HO;go_wp2_with fail
          cases hx:ze8 l' with
          | none=>
            have HE:Hid (∀ w',Rd R a cap ts w' l'->Calls Tryz.prog 200 #[.pointer (some ⟨R,0,none⟩)] w' fun e w''=>e = .panicked zag/\Keeps R w' w''):=fun w' h'=>by
             refine (zuw R cap a ts _ w' h').mono ?_;rintro e w'' ⟨hk,⟨_,rfl⟩ | ⟨_,_,_,h,_⟩⟩
             . exact ⟨rfl,hk⟩
             . rw [hx] at h;cases h
            have HP:Hid (zcc l=none):=by show _=_;rw [HP13.out];unfold pM3;rw [HG.out];unfold zfa;rw [if_neg (by simp [hs]),hx]
            clear hx;go_wp2_with fail;refine wp_region_any (by kernel_rfl) ?_
            change wpAny _ _ _ _ _ _ _ (World.drew _)
            refine wpAny_take (i:=2) (v:=.pointer (some ⟨R,0,none⟩)) rfl (by kernel_rfl) (by kernel_rfl) (by kernel_rfl) (fun c a w h=>h) (Or.inl ⟨by rfl,fun w=>by go_simp⟩) ?_;refine wpAny_take (i:=0) (v:=.pointer (some ⟨C,3,none⟩)) rfl (by kernel_rfl) (by kernel_rfl) (by kernel_rfl) (fun c a w h=>h) (Or.inl ⟨by rfl,fun w=>by go_simp⟩) ?_;refine wpAny_ready (rs:=[1,3]) (by kernel_rfl) (by simp) ?_;refine veh rfl (fun K hK=>?_) (veh rfl (fun K hK=>?_) vej)
            . go_simp
              refine hK _ _ ?_;clear hK K;refine wpAny_ready (rs:=[3]) (by kernel_rfl) (by simp) ?_;refine veh rfl (fun K hK=>?_) vej;refine zbf (by rfl) 200 _ _ (by rfl) zsy _ (by rfl) zag (HE.out _ HF23.out.rd.drew) ?_;intro w8 hk8;exact ⟨rfl,HF23.out.ke.drew.trans hk8,Or.inl ⟨HP.out,rfl⟩⟩
            . refine zbf (by rfl) 200 _ _ (by rfl) zsy _ (by rfl) zag (HE.out _ HF23.out.rd.drew) ?_
              intro w8 hk8;exact ⟨rfl,HF23.out.ke.drew.trans hk8,Or.inl ⟨HP.out,rfl⟩⟩
          | some r=>
            obtain ⟨y,ly⟩:=r
            have HE:Hid (∀ w',Rd R a cap ts w' l'->Calls Tryz.prog 200 #[.pointer (some ⟨R,0,none⟩)] w' fun e w''=>∃ u,e = .returned u/\(Keeps R w' w''/\z5l (w'.heap.size<=·) y w'' u/\Rd R a cap ts w'' ly)):=fun w' h'=>by
             refine (zuw R cap a ts _ w' h').mono ?_;rintro e w'' ⟨hk,⟨h,_⟩ | ⟨y',l',u,h,rfl,hr,hd⟩⟩
             . rw [hx] at h;cases h
             . rw [hx] at h
               obtain ⟨rfl,rfl⟩:=vao (vab h);exact ⟨u,rfl,hk,hr,hd⟩
            have HPy:Hid (zfa (l13.length+1) [] l13=zfa g (acc++[y]) ly):=by show _=_;rw [HG.out];unfold zfa;rw [if_neg (by simp [hs]),hx];cases g<;>rfl
            have hly:=zuu hx;clear hx;go_wp2_with fail
            go_region_law (first
             | (refine zb9 (by rfl) 200 _ _ (by rfl) zsy _ (by rfl) (HE.out _ HF23.out.rd.drew) ?_
                rintro u8 w8 ⟨HK8,⟨p1,q1,p2,q2,p3,q3,rfl,hy0,hy1,hy2,hy3⟩,HR8⟩;have hz8:w23.heap.size<=w8.heap.size:=HK8.size;have HF8:=hid (HF23.out.drew.keeps HK8 HR8);have hc8:w8.cell? ⟨C,3,none⟩=some v:=(HK8.cell (show C<w23.heap.size from hCw23) (by omega)).trans hvw23
                have hq8:C<w8.heap.size:=by omega
                have HO8:Hid (Row w13.heap.size 118 5 w8 v acc.length (zhz acc)):=(HO23.out.keeps (Keeps.refl R w23).drew (by omega)).keeps HK8 (by omega))
             | (refine zbj (by rfl) _ _ 24 (by rfl) w13.heap.size 118 _ 5 96 Tryz.underlying24 Tryz.infoP60 rfl (by decide) w8 _ acc.length (zhz acc) y.ds (by rfl) HO8.out #[.string y.name,.bool y.pub,.slice p1 y.params.length q1,.slice p2 y.locals.length q2,.slice p3 y.body.length q3] _ rfl (by rfl) rfl (w23.heap.size<=·) (z16 hy0 hy1 hy2 hy3) (fun b hb hA=>?_) (by omega) (by decide) (by omega) ?_
                focus (exact besw23.out hb hA hz8)
                intro g9 c9 w9 HO9 HB9 hz9;obtain ⟨k0,k1,k2,k3,k4,k5⟩:=zaa (HF8.out.belowB HB9 (by omega)).cb
                have hq9:C<w9.heap.size:=by omega
                have HF9:=hid ((HF8.out.belowB HB9 (by omega)).put 3 (.slice (some ⟨g9,0,none⟩) (acc.length+1) c9))
                have HO9':=hid (HO9.set (p:=⟨C,3,none⟩) (by show C<w13.heap.size;omega) (.slice (some ⟨g9,0,none⟩) (acc.length+1) c9))))
            all_goals
             clear HE;go_wp2_with fail;go_roundw
             case rel=>exact ⟨g,acc++[y],ly,_,HPy,by omega,by simp;omega,HF9.out,by rw [vam];rw [show zhz (acc++[y])=zhz acc++y.ds from by simp [zhz]];exact HO9'.out⟩
             case measure=>rw [HF9.out.rd.left,HDl.out];omega
        | true=>
          refine (zbl R cap a ts l' zrs wr (by decide) HF.out.rd hs).mono ?_;rintro e w23 ⟨rfl,HR3,HK3⟩;have HF23:=hid (HF.out.keeps HK3 HR3);have HO23:=hid (HO.out.keeps HK3 (by omega))
          have HP23:Hid (zcc l=(match pB l'.tail with
           | none=>none
           | some (b,l5)=>if skB l5 tRb then some (⟨nm,us,ds,acc,b⟩,l5.tail) else none)):=by show _=_;rw [HP13.out];unfold pM3;rw [HG.out];unfold zfa;rw [if_pos hs]
          obtain ⟨a23,c23,rfl,hls⟩:=HO23.out.slice;have hwz:w13.heap.size<=wr.heap.size:=HF.out.mv.1;have hz23:=HK3.size;have HPs:Hid (EAt w23 (C<·) a23 acc.length (zhz acc)):=low hls (by omega);have HUs:Hid (EAt w23 (C<·) a7 us.length (zaj us)):=HF23.out.at' HUs'.out;have HDs':Hid (EAt w23 (C<·) a13 ds.length (zj0 ds)):=HF23.out.at' HDs.out;have HW:=hid HF23.out.restart;have hC23:C<w23.heap.size:=lt_of_heap HF23.out.cb;clear HK3 HR3 HF HO hs hls HG HP13 HF23 HO23 HDl HUs' HDs;go_wp2_with fail;refine (zqv R cap a ts l'.tail w23 HW.out.rd).mono ?_;rintro e w24 ⟨KK,⟨hn,rfl⟩ | ⟨b,l4,v,hn,rfl,⟨a4,c4,rfl,hb4⟩,RD⟩⟩
          . exact ⟨rfl,HW.out.ke.trans KK,Or.inl ⟨by rw [HP23.out,hn],rfl⟩⟩
          have HP24:Hid (zcc l=if skB l4 tRb then some (⟨nm,us,ds,acc,b⟩,l4.tail) else none):=by show _=_;rw [HP23.out,hn]
          have HF24:=hid (HW.out.keeps KK RD);have hz24:=KK.size;have HF25:Hid (FSt R a cap ts w w23 C 27 zcw #[.string nm,.slice a7 us.length c7,.slice a13 ds.length c13,.slice a23 acc.length c23,.slice a4 b.length c4] (w24.setCell ⟨C,4,none⟩ (.slice a4 b.length c4)) l4):=HF24.out.put 4 (.slice a4 b.length c4);have H4:Hid (EAt (w24.setCell ⟨C,4,none⟩ (.slice a4 b.length c4)) (C<·) a4 b.length (zbp b)):=hb4.moves (((zad.refl w24 _).set (fun k _ hk=>by show k≠C;omega) _).trans ⟨vaa _,fun k _ hk=>⟨by omega,rfl⟩⟩);obtain ⟨h0,h1,h2,h3,h4,h5⟩:=zaa HF24.out.cb
          have hq24:C<w24.heap.size:=by omega
          have hz25:(w24.setCell ⟨C,4,none⟩ (.slice a4 b.length c4)).heap.size=w24.heap.size:=by simp only [vaq]
          clear KK RD hn HF24 HW hb4 HP23;go_wp2_with fail;generalize w24.setCell ⟨C,4,none⟩ (.slice a4 b.length c4)=w25 at *;clear h0 h1 h2 h3 h4 h5;refine (zfk R cap _ a ts l4 tRb w25 (by omega) HF25.out.rd (by decide)).mono ?_;rintro e w26 ⟨KK,⟨s1,rfl⟩ | ⟨s1,rfl,RD⟩⟩
          . exact ⟨rfl,HF25.out.ke.trans KK,Or.inl ⟨by rw [HP24.out,if_neg (by simp [s1])],rfl⟩⟩
          have HPE:Hid (zcc l=some (⟨nm,us,ds,acc,b⟩,l4.tail)):=by show _=_;rw [HP24.out,if_pos s1]
          have HF26:=hid (HF25.out.keeps KK RD);have hm:Hid (zad w25 (C<·) w26 (C<·)):=(zad.refl w25 _).keeps KK (fun k _ hk=>by omega);have HFin:=hid (z7o (m:=⟨nm,us,ds,acc,b⟩) HF26.out HPE.out hnm (HF26.out.at' HUs.out) (HF26.out.at' HDs'.out) (HF26.out.at' HPs.out) (H4.out.moves hm.out));obtain ⟨h0,h1,h2,h3,h4,h5⟩:=zaa HF26.out.cb;obtain ⟨g0,g1,g2,g3,g4,g5⟩:=zaa HF26.out.zb
          have hne:w.heap.size≠C:=by omega
          clear KK RD HF26 HF25 H4 hm HUs HDs' HPs HP24 HPE s1;go_wp2_with fail;refine bodyPost_ret (v:=.agg #[.string nm,.slice a7 us.length c7,.slice a13 ds.length c13,.slice a23 acc.length c23,.slice a4 b.length c4]) (by simp [results,Tryz.results159,go_sem,g0,g1,g2,g3,g4]) rfl HFin.out
end Go.Proofs.YtndkhgakfodldaaGreatDoor
