import Derived.Test.YtndkhgakfodldaaGreatDoorPj
import Derived.Deep.DeepCutAuto
namespace Go.Proofs.YtndkhgakfodldaaGreatDoor
set_option maxRecDepth 100000
set_option maxHeartbeats 8000000
open Go.RowKit Go.Shelf
structure FSt (R:Nat) (a:OA) (cap:Nat) (ts:List Tk) (w ws:World) (C:Nat) (T:TypeId) (Z:Obj) (cs:Array Value) (wr:World) (l:List Tk):Prop where
 rd:Rd R a cap ts wr l
 ke:Keeps R w wr
 zb:wr.heap[w.heap.size]? = some Z
 cb:wr.heap[C]? = some (.cells cs T (0,0))
 mv:zad ws (C<·) wr (C<·)
 hR:R<w.heap.size
 hC:w.heap.size<C
 hs:C<ws.heap.size
 r0:∃ l0,Rd R a cap ts w l0
section
variable {R cap C:Nat} {a:OA} {ts l l':List Tk} {w ws wr w':World} {T:TypeId} {Z:Obj} {cs:Array Value}
theorem FSt.keeps (h:FSt R a cap ts w ws C T Z cs wr l) (hk:Keeps R wr w') (hr:Rd R a cap ts w' l'):FSt R a cap ts w ws C T Z cs w' l':=
 have h1:=h.hR;have h2:=h.hC
 ⟨hr,h.ke.trans hk,(hk.block _ (lt_of_heap h.zb) ae).trans h.zb,(hk.block _ (lt_of_heap h.cb) ae).trans h.cb,h.mv.keeps hk (fun b _ hb=>ae),h.hR,h.hC,h.hs,h.r0⟩
theorem FSt.later (h:FSt R a cap ts w ws C T Z cs wr l) (hb:qb wr w'):FSt R a cap ts w ws C T Z cs w' l:=h.keeps (Keeps.of_below hb R) (h.rd.later hb)
theorem FSt.alloc (h:FSt R a cap ts w ws C T Z cs wr l) (o:Obj):FSt R a cap ts w ws C T Z cs (wr.alloc o) l:=h.later ((Below.refl _ _).alloc (vaa _) o)
theorem FSt.drew (h:FSt R a cap ts w ws C T Z cs wr l):FSt R a cap ts w ws C T Z cs wr.drew l:=h.keeps (Keeps.refl R wr).drew h.rd.drew
theorem FSt.put (h:FSt R a cap ts w ws C T Z cs wr l) (i:Nat) (u:Value):FSt R a cap ts w ws C T Z (cs.setIfInBounds i u) (wr.setCell (qa C i) u) l:=by
 obtain ⟨l0,h0⟩:=h.r0;have h2:=h.hC;exact ⟨h.rd.setAbove h0 (by show w.heap.size<=C;omega) u,h.ke.set (by show w.heap.size<=C;omega) u,(heap_set_ne (by show w.heap.size≠C;omega) u).trans h.zb,heap_set h.cb u,h.mv.set (fun b _ hb=>by show b≠C;omega) u,h.hR,h.hC,h.hs,h.r0⟩
theorem FSt.belowB {base:Nat} (h:FSt R a cap ts w ws C T Z cs wr l) (hb:Below base wr w') (AQ:ws.heap.size<=base):FSt R a cap ts w ws C T Z cs w' l:=by
 obtain ⟨l0,h0⟩:=h.r0;have h2:=h.hC;have h3:=h.hs;have B6:Below w.heap.size wr w':=hb.mono ae;exact ⟨h.rd.belowOf h0 B6,h.ke.belowOf B6,(hb.block _ ae).trans h.zb,(hb.block _ ae).trans h.cb,⟨vbd h.mv.1 hb.size,fun b A6 Ab=>⟨Ab,(hb.block b ae).trans (h.mv.2 b A6 Ab).2⟩⟩,h.hR,h.hC,h.hs,h.r0⟩
theorem FSt.restart (h:FSt R a cap ts w ws C T Z cs wr l):FSt R a cap ts w wr C T Z cs wr l:=
 ⟨h.rd,h.ke,h.zb,h.cb,zad.refl _ _,h.hR,h.hC,lt_of_heap h.cb,h.r0⟩
theorem FSt.at (h:FSt R a cap ts w ws C T Z cs wr l) {n lo:Nat} {ad:OA} {ds:List D} (k:EAt ws (lo<=·) ad n ds) (D4:C<lo):EAt wr (C<·) ad n ds:=
 k.moves ⟨h.mv.1,fun b h1 h2=>⟨vai D4 h2,(h.mv.2 b h1 (vai D4 h2)).2⟩⟩
theorem FSt.at' (h:FSt R a cap ts w ws C T Z cs wr l) {n:Nat} {ad:OA} {ds:List D} (k:EAt ws (C<·) ad n ds):EAt wr (C<·) ad n ds:=k.moves h.mv
end
def z6h (A:Nat->Prop) (p:Pr) (w:World) (v:Value):Prop:=∃ a1 c1 a2 c2 a3 c3,v = .agg #[.string p.name,.bool p.pub,.slice a1 p.params.length c1,.slice a2 p.locals.length c2,.slice a3 p.body.length c3]/\p.name.size<=maxLen/\EAt w A a1 p.params.length (zak p.params)/\EAt w A a2 p.locals.length (zak p.locals)/\EAt w A a3 p.body.length (zbs p.body)
abbrev zij:Obj:=.cells #[.string ⟨#[]⟩,.bool false,qs,qs,qs] 118 (0,0)
theorem zeh:Enters Tryz.prog 196:=enters_of Tryz.func196 ah rfl
theorem z8k {R cap C:Nat} {a:OA} {ts l':List Tk} {w ws wr:World} {r:Option (Pr × List Tk)} {p:Pr} {a1 a2 a3:OA} {c1 c2 c3:Nat} (h:FSt R a cap ts w ws C 118 zij #[.string p.name,.bool p.pub,.slice a1 p.params.length c1,.slice a2 p.locals.length c2,.slice a3 p.body.length c3] wr l') (hr:r=some (p,l')) (hn:p.name.size<=maxLen) (h1:EAt wr (C<·) a1 p.params.length (zak p.params)) (h2:EAt wr (C<·) a2 p.locals.length (zak p.locals)) (h3:EAt wr (C<·) a3 p.body.length (zbs p.body)) :
 zeg R a cap ts w r (z6h (w.heap.size<=·)) (.returned (.agg #[.string p.name,.bool p.pub,.slice a1 p.params.length c1,.slice a2 p.locals.length c2,.slice a3 p.body.length c3])) (set5 wr w.heap.size (.string p.name) (.bool p.pub) (.slice a1 p.params.length c1) (.slice a2 p.locals.length c2) (.slice a3 p.body.length c3)):=by
 obtain ⟨l0,h0⟩:=h.r0;have hC:=h.hC
 have hm:zad wr (C<·) (set5 wr w.heap.size (.string p.name) (.bool p.pub) (.slice a1 p.params.length c1) (.slice a2 p.locals.length c2) (.slice a3 p.body.length c3)) (w.heap.size<=·):=
  (((zad.refl wr (C<·)).set5 (b:=w.heap.size) (fun b _ hb=>ae) _ _ _ _ _)).trans ⟨vaa _,fun b _ hb=>⟨ae,rfl⟩⟩
 exact ⟨h.ke.set5 (vaa _) _ _ _ _ _,Or.inr ⟨p,l',_,hr,rfl,⟨a1,c1,a2,c2,a3,c3,rfl,hn,h1.moves hm,h2.moves hm,h3.moves hm⟩,h.rd.set5 h0 (vaa _) _ _ _ _ _⟩⟩
theorem zvd (R cap:Nat) (a:OA) (ts l:List Tk) (w:World) (h:Rd R a cap ts w l) :
 qc 200 #[pq R 0] w (zeg R a cap ts w (zfo l) (z6h (w.heap.size<=·))):=by
 have HR:Hid (Rd R a cap ts w l):=h;have CO:=h.lt
 have I8:l.length<=4096:=by
  exact ik
 have MR:=zte l;clear h;go_enter Tryz.func200,Tryz.ntmps200;go_wp2_with fail;refine (zo8 R cap a ts l zc3 _ aq (HR.out.alloc _)).mono ?_;rintro e w1 ⟨rfl,RD,KK⟩;have Fz:Hid (Rd R a cap ts w1 (zii l)):=RD;have FG:Hid (Keeps R w w1):=((Keeps.refl R w).alloc _).trans KK;have Ao:=KK.size;simp at Ao;have A8:Hid (w1.heap[w.heap.size]? = some zij):=(KK.block w.heap.size aA ae).trans (heap_newP _ _);clear RD KK;generalize BH:skB l zc3=pub at *;have L0:=hid BH;clear BH;go_wp2_with fail
 obtain ⟨w2,BW⟩:∃ w2,w2=w1.alloc (kzK ⟨#[]⟩ pub none 0 0 none 0 0 none 0 0):=⟨_,rfl⟩
 have Ay:w2.heap.size=w1.heap.size+1:=by rw [BW];simp
 have Da:Hid (FSt R a cap ts w w2 w1.heap.size 118 zij #[.string ⟨#[]⟩,.bool pub,qs,qs,qs] w2 (zii l)):=
  ⟨by rw [BW];exact Fz.out.alloc _,by rw [BW];exact FG.out.alloc _,by rw [BW];exact zab A8.out,by rw [BW];exact heap_newP _ _,zad.refl _ _,CO,ae,ae,l,HR.out⟩
 rw [← BW];clear BW Fz FG A8;generalize hC:w1.heap.size=C at *;clear hC w1;refine (zfy R cap _ a ts (zii l) z6s w2 Ay.symm Da.out.rd aq).mono ?_;rintro e w3 ⟨KK,⟨s1,rfl⟩ | ⟨s1,rfl,RD⟩⟩
 . exact ⟨rfl,Da.out.ke.trans KK,Or.inl ⟨by unfold zfo;rw [if_neg cM],rfl⟩⟩
 have Bs:=hid (Da.out.keeps KK RD);have BB:=KK.size;have CC:=zaj aq s1;clear RD KK Da;go_wp2_with fail;refine (zb1 R cap a ts (zii l).tail w3 Bs.out.rd).mono ?_;rintro e w4 ⟨KK,⟨hn,rfl⟩ | ⟨nm,l4,v,hn,rfl,⟨rfl,B4⟩,RD⟩⟩
 . exact ⟨rfl,Bs.out.ke.trans KK,Or.inl ⟨by unfold zfo;rw [if_pos s1,hn],rfl⟩⟩
 have CY:Hid (zfo l=if skB l4 tLp then (match zhz l4.tail with
  | none=>none
  | some (ps,l2)=>(match zcw zek (l2.length+1) [] l2 with
    | none=>none
    | some (ls,l3)=>(match pB l3 with | none=>none | some (b,l4)=>some (⟨nm,pub,ps,ls,b⟩,l4)))) else none):=by show zfo l=_;unfold zfo;rw [if_pos s1,hn,L0.out]<;>rfl
 have DU:=hid (Bs.out.keeps KK RD);have Db:=KK.size;have FV:=zbo hn;clear RD KK Bs hn s1 L0;have EL:=hid (DU.out.put 0 (.string nm))
 have Cf:(w4.setCell (qa C 0) (.string nm)).heap.size=w4.heap.size:=bx
 obtain ⟨h0,h1,h2,h3,h4,h5⟩:=zaa DU.out.cb;have MQ:C<w4.heap.size:=lt_of_heap DU.out.cb;go_wp2_with fail;generalize w4.setCell (qa C 0) (.string nm)=w5 at *;clear h0 h1 h2 h3 h4 h5 DU;refine (zfy R cap _ a ts l4 tLp w5 ae EL.out.rd aq).mono ?_;rintro e w6 ⟨KK,⟨s1,rfl⟩ | ⟨s1,rfl,RD⟩⟩
 . exact jz
 have Dx:Hid (zfo l=(match zhz l4.tail with
  | none=>none
  | some (ps,l2)=>(match zcw zek (l2.length+1) [] l2 with
    | none=>none
    | some (ls,l3)=>(match pB l3 with | none=>none | some (b,l4)=>some (⟨nm,pub,ps,ls,b⟩,l4))))):=by show zfo l=_;rw [CY.out,if_pos s1]
 have Hs:Hid (FSt R a cap ts w w2 C 118 zij #[.string nm,.bool pub,qs,qs,qs] w6 l4.tail):=EL.out.keeps KK RD;have Hw:=KK.size;have Gk:=zaj aq s1;clear RD KK EL s1 CY;go_wp2_with fail;refine (zo8 R cap a ts l4.tail tRp w6 aq Hs.out.rd).mono ?_;rintro e w7 ⟨rfl,RD,KK⟩;have C4:=hid (Hs.out.keeps KK RD);have Ja:=KK.size;clear RD KK Hs
 go_upto_if 18 with fail
 go_cut [] (fun wc=>∃ (ps:List ByteArray) (l8:List Tk) (v:Value),Hid (zhz l4.tail=some (ps,l8))/\l8.length<l.length/\Hid (FSt R a cap ts w w2 C 118 zij #[.string nm,.bool pub,v,qs,qs] wc l8)/\Hid (Row w2.heap.size 9 1 wc v ps.length (zak ps)))
 case first =>
  generalize PB:l4.tail=l6 at *
  have N9:l6.length<l.length:=ae
  cases hs:skB l6 tRp with
  | true=>
    rw [hs] at C4;go_wp2_with fail;go_meet;exact ⟨[],l6.tail,qs,(by show _=_;unfold zhz;rw [if_pos hs]),aF,C4,Row.nil _ _ _ _⟩
  | false =>
    rw [hs] at C4;have Lq:Hid (FSt R a cap ts w w2 C 118 zij #[.string nm,.bool pub,qs,qs,qs] w7 l6):=C4;clear C4;have C4:=Lq;clear Lq;obtain ⟨h0,h1,hvw7,h3,h4,h5⟩:=zaa C4.out.cb;have Iw:C<w7.heap.size:=lt_of_heap C4.out.cb;have Hl:Hid (Row w2.heap.size 9 1 w7 (qs) 0 (zak [])):=Row.nil _ _ _ _
    have Fs:Hid (∀ {b:Nat} {W:World},b<W.heap.size->False->w7.heap.size<=W.heap.size->ze5 w2.heap.size (qs) b):=fun _ h _=>h.elim
    go_wp2_with fail
    cases hx:zdo l6 with
    | none=>
      have HE:Hid (∀ w',Rd R a cap ts w' l6->qc 196 #[pq R 0] w' fun e AC=>e = .panicked zai/\Keeps R w' AC):=fun w' h'=>by
       refine (zb1 R cap a ts _ w' h').mono ?_;exact fM
      have HP:Hid (zfo l=none):=by show _=_;rw [Dx.out];unfold zhz;rw [if_neg eE,hx]
      clear hx;go_wp2_with fail;refine wp_region_any ah ?_
      change wpAny _ _ _ _ _ _ _ (World.drew _)
      refine wpAny_take (i:=2) (v:=pq R 0) rfl ah ah ah (fun c a w h=>h) (Or.inl ⟨aH,fun w=>aY⟩) ?_;refine wpAny_take (i:=0) (v:=pq C 2) rfl ah ah ah (fun c a w h=>h) (Or.inl ⟨aH,fun w=>aY⟩) ?_;exact fS
    | some r =>
      obtain ⟨y,ly⟩:=r
      have HE:Hid (∀ w',Rd R a cap ts w' l6->qc 196 #[pq R 0] w' fun e AC=>∃ u,e = .returned u/\(Keeps R w' AC/\(u = .string y/\y.size<=maxLen)/\Rd R a cap ts AC ly)):=fun w' h'=>by
       refine (zb1 R cap a ts _ w' h').mono ?_;exact fF
      have DO:Hid (zhz l6=zcv (ly.length+1) [y] ly):=by show _=_;unfold zhz;rw [if_neg eE,hx]
      have Ji:=zbo hx;clear hx;go_wp2_with fail
      go_region_law (first
       | (refine zce aH 196 _ _ aH zeh _ aH (HE.out _ C4.out.rd.drew) ?_
          rintro u8 w8 ⟨AO,⟨rfl,hy8⟩,Cu⟩;have DA:w7.heap.size<=w8.heap.size:=AO.size;have CN:=hid (C4.out.drew.keeps AO Cu);have Jn:w8.cell? (qa C 2)=some (qs):=(AO.cell (show C<w7.heap.size from Iw) ae).trans hvw7
          have Jc:C<w8.heap.size:=ae
          have D8:Hid (Row w2.heap.size 9 1 w8 (qs) 0 (zak [])):=(Hl.out.keeps (Keeps.refl R w7).drew ae).keeps AO ae)
       | (refine zbm aH _ _ 22 aH w2.heap.size 9 _ 1 16 Tryz.underlying22 Tryz.infoP9 rfl aq w8 _ 0 (zak []) [.str y] aH D8.out #[.string y] _ rfl aH rfl (fun _=>False) (.cons (zx0 hy8) .nil) (fun b hb hA=>?_) ae aq ae ?_
          focus (exact Fs.out hb hA DA)
          intro g9 c9 w9 DP B7 EQ;obtain ⟨k0,k1,k2,k3,k4,k5⟩:=zaa (CN.out.belowB B7 ae).cb
          have JW:C<w9.heap.size:=ae
          have CZ:=hid ((CN.out.belowB B7 ae).put 2 (.slice (some (qa g9 0)) (0+1) c9))
          have C9:=hid (DP.set (p:=(qa C 2)) (by show C<w2.heap.size;omega) (.slice (some (qa g9 0)) (0+1) c9))))
      all_goals
       clear HE;go_wp2_with fail
       go_loopw [] (fun wr=>∃ (g:Nat) (A5:List ByteArray) (l':List Tk) (v:Value),Hid (zhz l6=zcv g A5 l')/\l'.length+1<=g/\A5.length+l'.length<=l.length/\FSt R a cap ts w w2 C 118 zij #[.string nm,.bool pub,v,qs,qs] wr l'/\Row w2.heap.size 9 1 wr v A5.length (zak A5)) (fun wr=>zih R ts.length wr)
       case atStart=>exact ⟨_,[y],ly,_,DO,vaa _,aF,CZ.out,C9.out⟩
       case round=>
        obtain ⟨g,A5,l',v,HG,hg,hacc,hF,Aa⟩:=hrel;have HF:=hid hF;have HO:=hid Aa;have EN:Hid (zih R ts.length wr=l'.length):=hF.rd.left
        obtain ⟨g,rfl⟩:∃ g',g=g'+1:=⟨g - 1,ae⟩
        clear hF Aa;go_wp2_with fail;refine (z8g R cap _ a ts l' z3n tRp _ aA HF.out.rd aq aq).mono ?_;rintro e w3 ⟨Ak,⟨h1,h2,rfl⟩ | ⟨h1,rfl,Aq⟩ | ⟨h1,h2,rfl,Aq⟩⟩
        . exact ⟨rfl,HF.out.ke.trans Ak,Or.inl ⟨by rw [Dx.out,HG.out];unfold zcv;rw [if_neg cJ,if_neg dU],rfl⟩⟩
        . have CC:=zaj aq h1
          have BB:=Ak.size;have Bs:=hid (HF.out.keeps Ak Aq);have D9:=hid (HO.out.keeps Ak ae);obtain ⟨h0,Dn,hvw3,h3,h4,h5⟩:=zaa Bs.out.cb;have Ix:C<w3.heap.size:=lt_of_heap Bs.out.cb
          have Ft:Hid (∀ {b:Nat} {W:World},b<W.heap.size->False->w3.heap.size<=W.heap.size->ze5 w2.heap.size v b):=fun _ h _=>h.elim
          clear Ak Aq HF HO;go_wp2_with fail
          cases hx:zdo l'.tail with
          | none=>
            have HE:Hid (∀ w',Rd R a cap ts w' l'.tail->qc 196 #[pq R 0] w' fun e AC=>e = .panicked zai/\Keeps R w' AC):=fun w' h'=>by
             refine (zb1 R cap a ts _ w' h').mono ?_;exact fM
            have HP:Hid (zfo l=none):=by show _=_;rw [Dx.out,HG.out];unfold zcv;rw [if_pos h1,hx]
            clear hx;go_wp2_with fail;refine wp_region_any ah ?_
            change wpAny _ _ _ _ _ _ _ (World.drew _)
            refine wpAny_take (i:=2) (v:=pq R 0) rfl ah ah ah (fun c a w h=>h) (Or.inl ⟨aH,fun w=>aY⟩) ?_;refine wpAny_take (i:=0) (v:=pq C 2) rfl ah ah ah (fun c a w h=>h) (Or.inl ⟨aH,fun w=>aY⟩) ?_;exact fP
          | some r=>
            obtain ⟨y,ly⟩:=r
            have HE:Hid (∀ w',Rd R a cap ts w' l'.tail->qc 196 #[pq R 0] w' fun e AC=>∃ u,e = .returned u/\(Keeps R w' AC/\(u = .string y/\y.size<=maxLen)/\Rd R a cap ts AC ly)):=fun w' h'=>by
             refine (zb1 R cap a ts _ w' h').mono ?_;exact fF
            have DO:Hid (zhz l6=zcv g (A5++[y]) ly):=by show _=_;rw [HG.out];unfold zcv;rw [if_pos h1,hx];cases g<;>rfl
            have Ji:=zbo hx;have Ev:=EN;clear hx;go_wp2_with fail
            go_region_law (first
             | (refine zce aH 196 _ _ aH zeh _ aH (HE.out _ Bs.out.rd.drew) ?_
                rintro u8 w8 ⟨AO,⟨rfl,hy8⟩,Cu⟩;have DA:w3.heap.size<=w8.heap.size:=AO.size;have CN:=hid (Bs.out.drew.keeps AO Cu);have Jn:w8.cell? (qa C 2)=some v:=(AO.cell (show C<w3.heap.size from Ix) ae).trans hvw3
                have Jc:C<w8.heap.size:=ae
                have D8:Hid (Row w2.heap.size 9 1 w8 v A5.length (zak A5)):=(D9.out.keeps (Keeps.refl R w3).drew ae).keeps AO ae)
             | (refine zbm aH _ _ 22 aH w2.heap.size 9 _ 1 16 Tryz.underlying22 Tryz.infoP9 rfl aq w8 _ A5.length (zak A5) [.str y] aH D8.out #[.string y] _ rfl aH rfl (fun _=>False) (.cons (zx0 hy8) .nil) (fun b hb hA=>?_) ae aq ae ?_
                focus (exact Ft.out hb hA DA)
                intro g9 c9 w9 DP B7 EQ;obtain ⟨k0,k1,k2,k3,k4,k5⟩:=zaa (CN.out.belowB B7 ae).cb
                have JW:C<w9.heap.size:=ae
                have CZ:=hid ((CN.out.belowB B7 ae).put 2 (.slice (some (qa g9 0)) (A5.length+1) c9))
                have C9:=hid (DP.set (p:=(qa C 2)) (by show C<w2.heap.size;omega) (.slice (some (qa g9 0)) (A5.length+1) c9))))
            all_goals
             clear HE;go_wp2_with fail;go_roundw
             case rel=>exact ⟨g,A5++[y],ly,_,DO,ae,aF,CZ.out,by rw [vaj];rw [show zak (A5++[y])=zak A5++[.str y] from fj];exact C9.out⟩
             case measure=>rw [CZ.out.rd.left,EN.out];omega
        . have SY:Hid (zhz l6=some (A5,l'.tail)):=by show _=_;rw [HG.out];unfold zcv;rw [if_neg cJ,if_pos h2]
          have Bs:=hid (HF.out.keeps Ak Aq);have D9:=hid (HO.out.keeps Ak ae);clear Ak Aq HF HO;go_wp2_with fail;go_meet;exact ⟨A5,l'.tail,v,SY,aF,Bs,D9⟩
 case rest =>
  obtain ⟨ps,l8,v8,HPp,RF,CN,D8⟩:=hcut;obtain ⟨a8,c8,rfl,hps⟩:=D8.out.slice;have Mf:=hid hps
  have Mh:Hid (zfo l=(match zcw zek (l8.length+1) [] l8 with
   | none=>none
   | some (ls,l3)=>(match pB l3 with | none=>none | some (b,l4)=>some (⟨nm,pub,ps,ls,b⟩,l4)))):=by show _=_;rw [Dx.out,HPp.out]
  have HW:=hid CN.out.restart;have Us:C<wc.heap.size:=lt_of_heap CN.out.cb;have R9:w2.heap.size<=wc.heap.size:=CN.out.mv.1;clear hps D8 Dx HPp C4 CN;go_wp2_with fail
  go_loopw [] (fun wr=>∃ (g:Nat) (A5:List ByteArray) (l':List Tk) (v:Value),Hid (zcw zek (l8.length+1) [] l8=zcw zek g A5 l')/\l'.length+1<=g/\A5.length+l'.length<=l.length/\FSt R a cap ts w wc C 118 zij #[.string nm,.bool pub,.slice a8 ps.length c8,v,qs] wr l'/\Row wc.heap.size 9 1 wr v A5.length (zak A5)) (fun wr=>zih R ts.length wr)
  case atStart=>exact ⟨_,[],l8,_,rfl,vaa _,aF,HW.out,Row.nil _ _ _ _⟩
  case round=>
   obtain ⟨g,A5,l',v,HG,hg,hacc,hF,Aa⟩:=hrel;have HF:=hid hF;have HO:=hid Aa;have EN:Hid (zih R ts.length wr=l'.length):=hF.rd.left
   obtain ⟨g,rfl⟩:∃ g',g=g'+1:=⟨g - 1,ae⟩
   clear hF Aa HW;go_wp2_with fail
   cases hs:skB l' zek with
   | true =>
     refine (zbn R cap a ts l' zek wr aq HF.out.rd hs).mono ?_;rintro e w3 ⟨rfl,Aq,Ak⟩;have CC:=zaj aq hs;have BB:=Ak.size;have Bs:=hid (HF.out.keeps Ak Aq);have D9:=hid (HO.out.keeps Ak ae);obtain ⟨h0,h1,h2,hvw3,h4,h5⟩:=zaa Bs.out.cb;have Ix:C<w3.heap.size:=lt_of_heap Bs.out.cb
     have Ft:Hid (∀ {b:Nat} {W:World},b<W.heap.size->False->w3.heap.size<=W.heap.size->ze5 wc.heap.size v b):=fun _ h _=>h.elim
     have Hx:wc.heap.size<=wr.heap.size:=HF.out.mv.1;clear Ak Aq HF HO;go_wp2_with fail
     cases hx:zdo l'.tail with
     | none=>
       have HE:Hid (∀ w',Rd R a cap ts w' l'.tail->qc 196 #[pq R 0] w' fun e AC=>e = .panicked zai/\Keeps R w' AC):=fun w' h'=>by
        refine (zb1 R cap a ts _ w' h').mono ?_;exact fM
       have HP:Hid (zfo l=none):=by show _=_;rw [Mh.out,HG.out];unfold zcw;rw [if_pos hs,hx]
       clear hx;go_wp2_with fail;refine wp_region_any ah ?_
       change wpAny _ _ _ _ _ _ _ (World.drew _)
       refine wpAny_take (i:=2) (v:=pq R 0) rfl ah ah ah (fun c a w h=>h) (Or.inl ⟨aH,fun w=>aY⟩) ?_;refine wpAny_take (i:=0) (v:=pq C 3) rfl ah ah ah (fun c a w h=>h) (Or.inl ⟨aH,fun w=>aY⟩) ?_;exact fP
     | some r=>
       obtain ⟨y,ly⟩:=r
       have HE:Hid (∀ w',Rd R a cap ts w' l'.tail->qc 196 #[pq R 0] w' fun e AC=>∃ u,e = .returned u/\(Keeps R w' AC/\(u = .string y/\y.size<=maxLen)/\Rd R a cap ts AC ly)):=fun w' h'=>by
        refine (zb1 R cap a ts _ w' h').mono ?_;exact fF
       have DO:Hid (zcw zek (l8.length+1) [] l8=if skB ly zir then zcw zek g (A5++[y]) ly.tail else none):=du
       have Ji:=zbo hx;clear hx;go_wp2_with fail
       go_region_law (first
        | (refine zce aH 196 _ _ aH zeh _ aH (HE.out _ Bs.out.rd.drew) ?_
           rintro u8 w8 ⟨AO,⟨rfl,hy8⟩,Cu⟩;have DA:w3.heap.size<=w8.heap.size:=AO.size;have CN:=hid (Bs.out.drew.keeps AO Cu);have Jn:w8.cell? (qa C 3)=some v:=(AO.cell (show C<w3.heap.size from Ix) ae).trans hvw3
           have Jc:C<w8.heap.size:=ae
           have D8:Hid (Row wc.heap.size 9 1 w8 v A5.length (zak A5)):=(D9.out.keeps (Keeps.refl R w3).drew ae).keeps AO ae)
        | (refine zbm aH _ _ 22 aH wc.heap.size 9 _ 1 16 Tryz.underlying22 Tryz.infoP9 rfl aq w8 _ A5.length (zak A5) [.str y] aH D8.out #[.string y] _ rfl aH rfl (fun _=>False) (.cons (zx0 hy8) .nil) (fun b hb hA=>?_) ae aq ae ?_
           focus (exact Ft.out hb hA DA)
           intro g9 c9 w9 DP B7 EQ;obtain ⟨k0,k1,k2,k3,k4,k5⟩:=zaa (CN.out.belowB B7 ae).cb
           have JW:C<w9.heap.size:=ae
           have CZ:=hid ((CN.out.belowB B7 ae).put 3 (.slice (some (qa g9 0)) (A5.length+1) c9))
           have C9:=hid (DP.set (p:=(qa C 3)) (by show C<wc.heap.size;omega) (.slice (some (qa g9 0)) (A5.length+1) c9))))
       all_goals
        clear HE;go_wp2_with fail
        have G8:(w9.setCell (qa C 3) (.slice (some (qa g9 0)) (A5.length+1) c9)).heap.size=w9.heap.size:=bx
        generalize w9.setCell (qa C 3) (.slice (some (qa g9 0)) (A5.length+1) c9)=Dz at *;refine (zfy R cap _ a ts ly zir Dz ae CZ.out.rd aq).mono ?_;rintro e z1 ⟨ZK,⟨zs,rfl⟩ | ⟨zs,rfl,ZR⟩⟩
        . exact ⟨rfl,CZ.out.ke.trans ZK,Or.inl ⟨by rw [Mh.out,DO.out,if_neg eP],rfl⟩⟩
        have Ll:=hid (CZ.out.keeps ZK ZR);have Ol:=hid (C9.out.keeps ZK ae);have Rv:=zaj aq zs
        have Og:Hid (zcw zek (l8.length+1) [] l8=zcw zek g (A5++[y]) ly.tail):=by show _=_;rw [DO.out,if_pos zs]
        exact gU
   | false=>
     refine (zb7 R cap a ts l' zek wr HF.out.rd hs).mono ?_;rintro e w3 ⟨rfl,Aq,Ak⟩;have Bs:=hid (HF.out.keeps Ak Aq);have D9:=hid (HO.out.keeps Ak ae)
     have FA:Hid (zfo l=(match pB l' with | none=>none | some (b,l4)=>some (⟨nm,pub,ps,A5,b⟩,l4))):=by show _=_;rw [Mh.out,HG.out];unfold zcw;rw [if_neg eE]
     obtain ⟨a3,c3,rfl,hls⟩:=D9.out.slice;have Qs:=hid hls;have Hx:wc.heap.size<=wr.heap.size:=HF.out.mv.1;have BB:=Ak.size;clear Ak Aq HF HO hs hls Mh HG;go_wp2_with fail;refine (zra R cap a ts l' w3 Bs.out.rd).mono ?_;rintro e w4 ⟨KK,⟨hn,rfl⟩ | ⟨b,l4,v,hn,rfl,⟨a4,c4,rfl,Aj⟩,RD⟩⟩
     . exact ⟨rfl,Bs.out.ke.trans KK,Or.inl ⟨by rw [FA.out,hn],rfl⟩⟩
     have L1:Hid (zfo l=some (⟨nm,pub,ps,A5,b⟩,l4)):=by show _=_;rw [FA.out,hn]
     have DU:=hid (Bs.out.keeps KK RD);have Db:=KK.size;have Uv:C<w3.heap.size:=lt_of_heap Bs.out.cb;have EL:Hid (FSt R a cap ts w wc C 118 zij #[.string nm,.bool pub,.slice a8 ps.length c8,.slice a3 A5.length c3,.slice a4 b.length c4] (w4.setCell (qa C 4) (.slice a4 b.length c4)) l4):=DU.out.put 4 (.slice a4 b.length c4);have MZ:zad w3 (C<·) (w4.setCell (qa C 4) (.slice a4 b.length c4)) (C<·):=((zad.refl w3 _).keeps KK (fun k _ hk=>by have:=Bs.out.hC;omega)).set (fun k _ hk=>by show k≠C;omega) _;have H1:Hid (EAt (w4.setCell (qa C 4) (.slice a4 b.length c4)) (C<·) a8 ps.length (zak ps)):=EL.out.at Mf.out ae;have H2:Hid (EAt (w4.setCell (qa C 4) (.slice a4 b.length c4)) (C<·) a3 A5.length (zak A5)):=Qs.out.moves ⟨MZ.1,fun k h1 h2=>⟨ae,(MZ.2 k h1 ae).2⟩⟩;have H3:Hid (EAt (w4.setCell (qa C 4) (.slice a4 b.length c4)) (C<·) a4 b.length (zbs b)):=Aj.moves (((zad.refl w4 _).set (fun k _ hk=>by show k≠C;omega) _).trans ⟨vaa _,fun k _ hk=>⟨ae,rfl⟩⟩)
     have IX:=hid (z8k (p:=⟨nm,pub,ps,A5,b⟩) EL.out L1.out B4 H1.out H2.out H3.out);obtain ⟨h0,h1,h2,h3,h4,h5⟩:=zaa DU.out.cb;obtain ⟨g0,g1,g2,g3,g4,g5⟩:=zaa DU.out.zb
     have Ai:w.heap.size≠C:=by have:=DU.out.hC;omega
     clear KK RD hn Bs DU EL Aj MZ Qs H1 H2 H3 FA L1;go_wp2_with fail;refine bodyPost_ret (v:=.agg #[.string nm,.bool pub,.slice a8 ps.length c8,.slice a3 A5.length c3,.slice a4 b.length c4]) (by simp [results,Tryz.results200,go_sem,g0,g1,g2,g3,g4]) rfl IX.out
set_option maxHeartbeats 16000000
def pM3 (n:ByteArray) (us:List ByteArray) (ds:List De) (l3:List Tk):Option (Mo × List Tk):=match zfq (l3.length+1) [] l3 with
 | none=>none
 | some (ps,l4)=>(match pB l4 with
   | none=>none
   | some (b,l5)=>if skB l5 tRb then some (⟨n,us,ds,ps,b⟩,l5.tail) else none)
def pM2 (n:ByteArray) (us:List ByteArray) (l2:List Tk):Option (Mo × List Tk):=match zfp (l2.length+1) [] l2 with
 | none=>none
 | some (ds,l3)=>pM3 n us ds l3
def pM1 (n:ByteArray) (l1:List Tk):Option (Mo × List Tk):=match zcw zvo (l1.length+1) [] l1 with
 | none=>none
 | some (us,l2)=>pM2 n us l2
theorem zwy (l:List Tk):zci l=if skB l zpm then (match zdo l.tail with | none=>none | some (n,l1)=>if skB l1 tLb then pM1 n l1.tail else none) else none:=by
 unfold zci pM1 pM2 pM3;rfl
def zpb (A:Nat->Prop) (m:Mo) (w:World) (v:Value):Prop:=∃ a1 c1 a2 c2 a3 c3 a4 c4,v = .agg #[.string m.name,.slice a1 m.uses.length c1,.slice a2 m.decls.length c2,.slice a3 m.procs.length c3,.slice a4 m.main.length c4]/\m.name.size<=maxLen/\EAt w A a1 m.uses.length (zak m.uses)/\EAt w A a2 m.decls.length (zku m.decls)/\EAt w A a3 m.procs.length (zio m.procs)/\EAt w A a4 m.main.length (zbs m.main)
abbrev zc2:Obj:=.cells #[.string ⟨#[]⟩,qs,qs,qs,qs] 27 (0,0)
theorem ztf:Enters Tryz.prog 199:=enters_of Tryz.func199 ah rfl
theorem ztg:Enters Tryz.prog 200:=enters_of Tryz.func200 ah rfl
theorem z2z {A:Nat->Prop} {w:World} {d:De} (h:d.name.size<=maxLen):zav w A d.ds [qi d.kind,.string d.name,.bool d.pub,qi d.n]:=.cons zqh (.cons (zx0 h) (.cons z8q (.cons zqh .nil)))
theorem z20 {A:Nat->Prop} {w:World} {p:Pr} {a1 a2 a3:OA} {c1 c2 c3:Nat} (h:p.name.size<=maxLen) (h1:EAt w A a1 p.params.length (zak p.params)) (h2:EAt w A a2 p.locals.length (zak p.locals)) (h3:EAt w A a3 p.body.length (zbs p.body)):zav w A p.ds [.string p.name,.bool p.pub,.slice a1 p.params.length c1,.slice a2 p.locals.length c2,.slice a3 p.body.length c3]:=
 .cons (zx0 h) (.cons z8q (.cons h1.val (.cons h2.val (.cons h3.val .nil))))
theorem z8l {R cap C:Nat} {a:OA} {ts l':List Tk} {w ws wr:World} {r:Option (Mo × List Tk)} {m:Mo} {a1 a2 a3 a4:OA} {c1 c2 c3 c4:Nat} (h:FSt R a cap ts w ws C 27 zc2 #[.string m.name,.slice a1 m.uses.length c1,.slice a2 m.decls.length c2,.slice a3 m.procs.length c3,.slice a4 m.main.length c4] wr l') (hr:r=some (m,l')) (hn:m.name.size<=maxLen) (h1:EAt wr (C<·) a1 m.uses.length (zak m.uses)) (h2:EAt wr (C<·) a2 m.decls.length (zku m.decls)) (h3:EAt wr (C<·) a3 m.procs.length (zio m.procs)) (h4:EAt wr (C<·) a4 m.main.length (zbs m.main)) :
 zeg R a cap ts w r (zpb (w.heap.size<=·)) (.returned (.agg #[.string m.name,.slice a1 m.uses.length c1,.slice a2 m.decls.length c2,.slice a3 m.procs.length c3,.slice a4 m.main.length c4])) (set5 wr w.heap.size (.string m.name) (.slice a1 m.uses.length c1) (.slice a2 m.decls.length c2) (.slice a3 m.procs.length c3) (.slice a4 m.main.length c4)):=by
 obtain ⟨l0,h0⟩:=h.r0;have hC:=h.hC
 have hm:zad wr (C<·) (set5 wr w.heap.size (.string m.name) (.slice a1 m.uses.length c1) (.slice a2 m.decls.length c2) (.slice a3 m.procs.length c3) (.slice a4 m.main.length c4)) (w.heap.size<=·):=
  (((zad.refl wr (C<·)).set5 (b:=w.heap.size) (fun b _ hb=>ae) _ _ _ _ _)).trans ⟨vaa _,fun b _ hb=>⟨ae,rfl⟩⟩
 exact ⟨h.ke.set5 (vaa _) _ _ _ _ _,Or.inr ⟨m,l',_,hr,rfl,⟨a1,c1,a2,c2,a3,c3,a4,c4,rfl,hn,h1.moves hm,h2.moves hm,h3.moves hm,h4.moves hm⟩,h.rd.set5 h0 (vaa _) _ _ _ _ _⟩⟩
theorem low {w:World} {lo C n:Nat} {a:OA} {ds:List D} (h:EAt w (lo<=·) a n ds) (hl:C<lo):EAt w (C<·) a n ds:=h.moves ⟨vaa _,fun _ _ hb=>⟨vai hl hb,rfl⟩⟩
theorem zwz (R cap:Nat) (a:OA) (ts l:List Tk) (w:World) (h:Rd R a cap ts w l) :
 qc 159 #[pq R 0] w (zeg R a cap ts w (zci l) (zpb (w.heap.size<=·))):=by
 have HR:Hid (Rd R a cap ts w l):=h;have CO:=h.lt
 have I8:l.length<=4096:=by
  exact ik
 have GF:=hid (zwy l);clear h;go_enter Tryz.func159,Tryz.ntmps159;go_wp2_with fail
 obtain ⟨w2,BW⟩:∃ w2,w2=(w.alloc zc2).alloc zc2:=⟨_,rfl⟩
 have Ay:w2.heap.size=w.heap.size+1+1:=by rw [BW];simp
 have Da:Hid (FSt R a cap ts w w2 (w.heap.size+1) 27 zc2 #[.string ⟨#[]⟩,qs,qs,qs,qs] w2 l):=
  ⟨by rw [BW];exact (HR.out.alloc _).alloc _,by rw [BW];exact ((Keeps.refl R w).alloc _).alloc _,by rw [BW];exact zab (heap_newP _ _),by rw [BW];have:=heap_newP (w.alloc zc2) zc2;simpa using this,zad.refl _ _,CO,ae,ae,l,HR.out⟩
 rw [← BW];clear BW;generalize hC:w.heap.size+1=C at *;refine (zfy R cap _ a ts l zpm w2 Ay.symm Da.out.rd aq).mono ?_;rintro e w3 ⟨KK,⟨s1,rfl⟩ | ⟨s1,rfl,RD⟩⟩
 . exact ⟨rfl,Da.out.ke.trans KK,Or.inl ⟨by rw [GF.out,if_neg cM],rfl⟩⟩
 have Bs:=hid (Da.out.keeps KK RD);have BB:=KK.size;have CC:=zaj aq s1;clear RD KK Da;go_wp2_with fail;refine (zb1 R cap a ts l.tail w3 Bs.out.rd).mono ?_;rintro e w4 ⟨KK,⟨hn,rfl⟩ | ⟨nm,l4,v,hn,rfl,⟨rfl,B4⟩,RD⟩⟩
 . exact ⟨rfl,Bs.out.ke.trans KK,Or.inl ⟨by rw [GF.out,if_pos s1,hn],rfl⟩⟩
 have CY:Hid (zci l=if skB l4 tLb then pM1 nm l4.tail else none):=by show _=_;rw [GF.out,if_pos s1,hn]
 have DU:=hid (Bs.out.keeps KK RD);have Db:=KK.size;have FV:=zbo hn;clear RD KK Bs hn s1 GF;have EL:=hid (DU.out.put 0 (.string nm))
 have Cf:(w4.setCell (qa C 0) (.string nm)).heap.size=w4.heap.size:=bx
 obtain ⟨h0,h1,h2,h3,h4,h5⟩:=zaa DU.out.cb;have MQ:C<w4.heap.size:=lt_of_heap DU.out.cb;go_wp2_with fail;generalize w4.setCell (qa C 0) (.string nm)=w5 at *;clear h0 h1 h2 h3 h4 h5 DU;refine (zfy R cap _ a ts l4 tLb w5 ae EL.out.rd aq).mono ?_;rintro e w6 ⟨KK,⟨s1,rfl⟩ | ⟨s1,rfl,RD⟩⟩
 . exact jz
 have Dx:Hid (zci l=pM1 nm l4.tail):=by show _=_;rw [CY.out,if_pos s1]
 have Hs:Hid (FSt R a cap ts w w2 C 27 zc2 #[.string nm,qs,qs,qs,qs] w6 l4.tail):=EL.out.keeps KK RD;have Hw:=KK.size;have Gk:=zaj aq s1;clear RD KK EL s1 CY;generalize PB:l4.tail=l6 at *
 have N9:l6.length<l.length:=ae
 have HW:=hid Hs.out.restart;have Uu:C<w6.heap.size:=lt_of_heap Hs.out.cb;have QX:w2.heap.size<=w6.heap.size:=Hs.out.mv.1;clear Hs PB CC FV Gk;go_wp2_with fail
 go_loopw [] (fun wr=>∃ (g:Nat) (A5:List ByteArray) (l':List Tk) (v:Value),Hid (zcw zvo (l6.length+1) [] l6=zcw zvo g A5 l')/\l'.length+1<=g/\A5.length+l'.length<=l.length/\FSt R a cap ts w w6 C 27 zc2 #[.string nm,v,qs,qs,qs] wr l'/\Row w6.heap.size 9 1 wr v A5.length (zak A5)) (fun wr=>zih R ts.length wr)
 case atStart=>exact ⟨_,[],l6,_,rfl,vaa _,aF,HW.out,Row.nil _ _ _ _⟩
 case round =>
  obtain ⟨g,A5,l',v,HG,hg,hacc,hF,Aa⟩:=hrel;have HF:=hid hF;have HO:=hid Aa;have EN:Hid (zih R ts.length wr=l'.length):=hF.rd.left
  obtain ⟨g,rfl⟩:∃ g',g=g'+1:=⟨g - 1,ae⟩
  clear hF Aa HW;go_wp2_with fail
  cases hs:skB l' zvo with
  | true =>
    refine (zbn R cap a ts l' zvo wr aq HF.out.rd hs).mono ?_;rintro e w7 ⟨rfl,Aq,Ak⟩;have CC:=zaj aq hs;have Ja:=Ak.size;have C4:=hid (HF.out.keeps Ak Aq);have Hl:=hid (HO.out.keeps Ak ae);obtain ⟨h0,hvw7,h2,h3,h4,h5⟩:=zaa C4.out.cb;have Iw:C<w7.heap.size:=lt_of_heap C4.out.cb
    have Fs:Hid (∀ {b:Nat} {W:World},b<W.heap.size->False->w7.heap.size<=W.heap.size->ze5 w6.heap.size v b):=fun _ h _=>h.elim
    have Hx:w6.heap.size<=wr.heap.size:=HF.out.mv.1;clear Ak Aq HF HO;go_wp2_with fail
    cases hx:zdo l'.tail with
    | none=>
      have HE:Hid (∀ w',Rd R a cap ts w' l'.tail->qc 196 #[pq R 0] w' fun e AC=>e = .panicked zai/\Keeps R w' AC):=fun w' h'=>by
       refine (zb1 R cap a ts _ w' h').mono ?_;exact fM
      have HP:Hid (zci l=none):=by show _=_;rw [Dx.out];unfold pM1;rw [HG.out];unfold zcw;rw [if_pos hs,hx]
      clear hx;go_wp2_with fail;refine wp_region_any ah ?_
      change wpAny _ _ _ _ _ _ _ (World.drew _)
      refine wpAny_take (i:=2) (v:=pq R 0) rfl ah ah ah (fun c a w h=>h) (Or.inl ⟨aH,fun w=>aY⟩) ?_;refine wpAny_take (i:=0) (v:=pq C 1) rfl ah ah ah (fun c a w h=>h) (Or.inl ⟨aH,fun w=>aY⟩) ?_;exact fS
    | some r=>
      obtain ⟨y,ly⟩:=r
      have HE:Hid (∀ w',Rd R a cap ts w' l'.tail->qc 196 #[pq R 0] w' fun e AC=>∃ u,e = .returned u/\(Keeps R w' AC/\(u = .string y/\y.size<=maxLen)/\Rd R a cap ts AC ly)):=fun w' h'=>by
       refine (zb1 R cap a ts _ w' h').mono ?_;exact fF
      have DO:Hid (zcw zvo (l6.length+1) [] l6=if skB ly zir then zcw zvo g (A5++[y]) ly.tail else none):=du
      have Ji:=zbo hx;clear hx;go_wp2_with fail
      go_region_law (first
       | (refine zce aH 196 _ _ aH zeh _ aH (HE.out _ C4.out.rd.drew) ?_
          rintro u8 w8 ⟨AO,⟨rfl,hy8⟩,Cu⟩;have DA:w7.heap.size<=w8.heap.size:=AO.size;have CN:=hid (C4.out.drew.keeps AO Cu);have Jn:w8.cell? (qa C 1)=some v:=(AO.cell (show C<w7.heap.size from Iw) ae).trans hvw7
          have Jc:C<w8.heap.size:=ae
          have D8:Hid (Row w6.heap.size 9 1 w8 v A5.length (zak A5)):=(Hl.out.keeps (Keeps.refl R w7).drew ae).keeps AO ae)
       | (refine zbm aH _ _ 22 aH w6.heap.size 9 _ 1 16 Tryz.underlying22 Tryz.infoP9 rfl aq w8 _ A5.length (zak A5) [.str y] aH D8.out #[.string y] _ rfl aH rfl (fun _=>False) (.cons (zx0 hy8) .nil) (fun b hb hA=>?_) ae aq ae ?_
          focus (exact Fs.out hb hA DA)
          intro g9 c9 w9 DP B7 EQ;obtain ⟨k0,k1,k2,k3,k4,k5⟩:=zaa (CN.out.belowB B7 ae).cb
          have JW:C<w9.heap.size:=ae
          have CZ:=hid ((CN.out.belowB B7 ae).put 1 (.slice (some (qa g9 0)) (A5.length+1) c9))
          have C9:=hid (DP.set (p:=(qa C 1)) (by show C<w6.heap.size;omega) (.slice (some (qa g9 0)) (A5.length+1) c9))))
      all_goals
       clear HE;go_wp2_with fail
       have G8:(w9.setCell (qa C 1) (.slice (some (qa g9 0)) (A5.length+1) c9)).heap.size=w9.heap.size:=bx
       generalize w9.setCell (qa C 1) (.slice (some (qa g9 0)) (A5.length+1) c9)=Dz at *;refine (zfy R cap _ a ts ly zir Dz ae CZ.out.rd aq).mono ?_;rintro e z1 ⟨ZK,⟨zs,rfl⟩ | ⟨zs,rfl,ZR⟩⟩
       . exact ⟨rfl,CZ.out.ke.trans ZK,Or.inl ⟨by rw [Dx.out];unfold pM1;rw [DO.out,if_neg eP],rfl⟩⟩
       have Ll:=hid (CZ.out.keeps ZK ZR);have Ol:=hid (C9.out.keeps ZK ae);have Rv:=zaj aq zs
       have Og:Hid (zcw zvo (l6.length+1) [] l6=zcw zvo g (A5++[y]) ly.tail):=by show _=_;rw [DO.out,if_pos zs]
       exact gU
  | false =>
    refine (zb7 R cap a ts l' zvo wr HF.out.rd hs).mono ?_;rintro e w7 ⟨rfl,Aq,Ak⟩;have C4:=hid (HF.out.keeps Ak Aq);have Hl:=hid (HO.out.keeps Ak ae)
    have Ek:Hid (zci l=pM2 nm A5 l'):=by show _=_;rw [Dx.out];unfold pM1;rw [HG.out];unfold zcw;rw [if_neg eE]
    obtain ⟨a7,c7,rfl,hls⟩:=Hl.out.slice;have IG:Hid (EAt w7 (C<·) a7 A5.length (zak A5)):=low hls ae;have Hx:w6.heap.size<=wr.heap.size:=HF.out.mv.1;have Ja:=Ak.size;have HW:=hid C4.out.restart;have Ut:C<w7.heap.size:=lt_of_heap C4.out.cb
    have Kv:l'.length<=l.length:=ae
    clear Ak Aq HF HO hs hls HG Dx C4 Hl EN hacc hg g;generalize GS:A5=us at *;generalize PA:l'=l7 at *;clear GS PA;go_wp2_with fail
    go_loopw [] (fun wr=>∃ (g:Nat) (A5:List De) (l':List Tk) (v:Value),Hid (zfp (l7.length+1) [] l7=zfp g A5 l')/\l'.length+1<=g/\A5.length+l'.length<=l.length/\FSt R a cap ts w w7 C 27 zc2 #[.string nm,.slice a7 us.length c7,v,qs,qs] wr l'/\Row w7.heap.size 170 4 wr v A5.length (zku A5)) (fun wr=>zih R ts.length wr)
    case atStart=>exact ⟨_,[],l7,_,rfl,vaa _,aF,HW.out,Row.nil _ _ _ _⟩
    case round =>
     obtain ⟨g,A5,l',v,HG,hg,hacc,hF,Aa⟩:=hrel;have HF:=hid hF;have HO:=hid Aa;have EN:Hid (zih R ts.length wr=l'.length):=hF.rd.left
     obtain ⟨g,rfl⟩:∃ g',g=g'+1:=⟨g - 1,ae⟩
     clear hF Aa HW;go_wp2_with fail;refine (zpa R cap a ts l' wr HF.out.rd).mono ?_
     cases hs:zwx l' with
     | true =>
       rintro e Dg ⟨rfl,hb13⟩;have MM:=hb13.size;have Cd:=hid (HF.out.later hb13);have GG:=hid (HO.out.later hb13);obtain ⟨h0,h1,hvw13,h3,h4,h5⟩:=zaa Cd.out.cb;have KB:C<Dg.heap.size:=lt_of_heap Cd.out.cb
       have IA:Hid (∀ {b:Nat} {W:World},b<W.heap.size->False->Dg.heap.size<=W.heap.size->ze5 w7.heap.size v b):=fun _ h _=>h.elim
       have Hx:w7.heap.size<=wr.heap.size:=HF.out.mv.1;clear hb13 HF HO;go_wp2_with fail
       cases hx:zb2 l' with
       | none=>
         have HE:Hid (∀ w',Rd R a cap ts w' l'->qc 199 #[pq R 0] w' fun e AC=>e = .panicked zai/\Keeps R w' AC):=fun w' h'=>by
          refine (zvc R cap a ts _ w' h').mono ?_;exact fM
         have HP:Hid (zci l=none):=by show _=_;rw [Ek.out];unfold pM2;rw [HG.out];unfold zfp;rw [if_pos hs,hx]
         clear hx;go_wp2_with fail;refine wp_region_any ah ?_
         change wpAny _ _ _ _ _ _ _ (World.drew _)
         refine wpAny_take (i:=2) (v:=pq R 0) rfl ah ah ah (fun c a w h=>h) (Or.inl ⟨aH,fun w=>aY⟩) ?_;refine wpAny_take (i:=0) (v:=pq C 2) rfl ah ah ah (fun c a w h=>h) (Or.inl ⟨aH,fun w=>aY⟩) ?_;refine wpAny_ready (rs:=[1,3]) ah aA ?_;refine ver rfl (fun K hK=>?_) (ver rfl (fun K hK=>?_) veu)
         . go_simp
           refine hK _ _ ?_;clear hK K;refine wpAny_ready (rs:=[3]) ah aA ?_;refine ver rfl (fun K hK=>?_) veu;refine zbh aH 199 _ _ aH ztf _ aH zai (HE.out _ Cd.out.rd.drew) ?_;exact jy
         . refine zbh aH 199 _ _ aH ztf _ aH zai (HE.out _ Cd.out.rd.drew) ?_
           exact jy
       | some r=>
         obtain ⟨y,ly⟩:=r
         have HE:Hid (∀ w',Rd R a cap ts w' l'->qc 199 #[pq R 0] w' fun e AC=>∃ u,e = .returned u/\(Keeps R w' AC/\zz4 y AC u/\Rd R a cap ts AC ly)):=fun w' h'=>by
          refine (zvc R cap a ts _ w' h').mono ?_;exact fF
         have DO:Hid (zfp (l7.length+1) [] l7=zfp g (A5++[y]) ly):=by show _=_;rw [HG.out];unfold zfp;rw [if_pos hs,hx];cases g<;>rfl
         have Ji:=zu9 hx;clear hx;go_wp2_with fail
         go_region_law (first
          | (refine zce aH 199 _ _ aH ztf _ aH (HE.out _ Cd.out.rd.drew) ?_
             rintro u8 w8 ⟨AO,⟨rfl,hy8⟩,Cu⟩;have DA:Dg.heap.size<=w8.heap.size:=AO.size;have CN:=hid (Cd.out.drew.keeps AO Cu);have Jn:w8.cell? (qa C 2)=some v:=(AO.cell (show C<Dg.heap.size from KB) ae).trans hvw13
             have Jc:C<w8.heap.size:=ae
             have D8:Hid (Row w7.heap.size 170 4 w8 v A5.length (zku A5)):=(GG.out.keeps (Keeps.refl R Dg).drew ae).keeps AO ae)
          | (refine zbm aH _ _ 23 aH w7.heap.size 170 _ 4 40 Tryz.underlying23 Tryz.infoP56 rfl aq w8 _ A5.length (zku A5) y.ds aH D8.out #[.int .i64 y.kind,.string y.name,.bool y.pub,.int .i64 y.n] _ rfl aH rfl (fun _=>False) (z2z hy8) (fun b hb hA=>?_) ae aq ae ?_
             focus (exact IA.out hb hA DA)
             intro g9 c9 w9 DP B7 EQ;obtain ⟨k0,k1,k2,k3,k4,k5⟩:=zaa (CN.out.belowB B7 ae).cb
             have JW:C<w9.heap.size:=ae
             have CZ:=hid ((CN.out.belowB B7 ae).put 2 (.slice (some (qa g9 0)) (A5.length+1) c9))
             have C9:=hid (DP.set (p:=(qa C 2)) (by show C<w7.heap.size;omega) (.slice (some (qa g9 0)) (A5.length+1) c9))))
         all_goals
          clear HE;go_wp2_with fail;go_roundw
          case rel=>exact ⟨g,A5++[y],ly,_,DO,ae,aF,CZ.out,by rw [vaj];rw [show zku (A5++[y])=zku A5++y.ds from by simp [zku]];exact C9.out⟩
          case measure=>rw [CZ.out.rd.left,EN.out];omega
     | false =>
       rintro e Dg ⟨rfl,hb13⟩;have Cd:=hid (HF.out.later hb13);have GG:=hid (HO.out.later hb13)
       have IR:Hid (zci l=pM3 nm us A5 l'):=by show _=_;rw [Ek.out];unfold pM2;rw [HG.out];unfold zfp;rw [if_neg eE]
       obtain ⟨KI,c13,rfl,hls⟩:=GG.out.slice;have Hx:w7.heap.size<=wr.heap.size:=HF.out.mv.1;have MM:=hb13.size;have Mr:Hid (EAt Dg (C<·) KI A5.length (zku A5)):=low hls ae;have KQ:Hid (EAt Dg (C<·) a7 us.length (zak us)):=Cd.out.at' IG.out;have HW:=hid Cd.out.restart;have Sl:C<Dg.heap.size:=lt_of_heap Cd.out.cb
       have Kv:l'.length<=l.length:=ae
       clear hb13 HF HO hs hls HG Ek Cd GG EN hacc hg g IG;generalize Km:A5=ds at *;generalize Na:l'=l13 at *;clear Km Na;go_wp2_with fail
       go_loopw [] (fun wr=>∃ (g:Nat) (A5:List Pr) (l':List Tk) (v:Value),Hid (zfq (l13.length+1) [] l13=zfq g A5 l')/\l'.length+1<=g/\A5.length+l'.length<=l.length/\FSt R a cap ts w Dg C 27 zc2 #[.string nm,.slice a7 us.length c7,.slice KI ds.length c13,v,qs] wr l'/\Row Dg.heap.size 118 5 wr v A5.length (zio A5)) (fun wr=>zih R ts.length wr)
       case atStart=>exact ⟨_,[],l13,_,rfl,vaa _,aF,HW.out,Row.nil _ _ _ _⟩
       case round=>
        obtain ⟨g,A5,l',v,HG,hg,hacc,hF,Aa⟩:=hrel;have HF:=hid hF;have HO:=hid Aa;have EN:Hid (zih R ts.length wr=l'.length):=hF.rd.left
        obtain ⟨g,rfl⟩:∃ g',g=g'+1:=⟨g - 1,ae⟩
        clear hF Aa HW;go_wp2_with fail
        cases hs:skB l' zto with
        | false =>
          refine (zb7 R cap a ts l' zto wr HF.out.rd hs).mono ?_;rintro e DZ ⟨rfl,Aq,Ak⟩;have ML:=Ak.size;have BZ:=hid (HF.out.keeps Ak Aq);have FB:=hid (HO.out.keeps Ak ae);obtain ⟨h0,h1,h2,hvw23,h4,h5⟩:=zaa BZ.out.cb;have KA:C<DZ.heap.size:=lt_of_heap BZ.out.cb;have Hx:Dg.heap.size<=wr.heap.size:=HF.out.mv.1
          have Iz:Hid (∀ {b:Nat} {W:World},b<W.heap.size->DZ.heap.size<=b->DZ.heap.size<=W.heap.size->ze5 Dg.heap.size v b):=fun {b} _ _ h _=>⟨ae,fun e=>by have:=(FB.out.lt b e).2;omega⟩
          clear Ak Aq HF HO;go_wp2_with fail
          cases hx:zfo l' with
          | none=>
            have HE:Hid (∀ w',Rd R a cap ts w' l'->qc 200 #[pq R 0] w' fun e AC=>e = .panicked zai/\Keeps R w' AC):=fun w' h'=>by
             refine (zvd R cap a ts _ w' h').mono ?_;exact fM
            have HP:Hid (zci l=none):=by show _=_;rw [IR.out];unfold pM3;rw [HG.out];unfold zfq;rw [if_neg eE,hx]
            clear hx;go_wp2_with fail;refine wp_region_any ah ?_
            change wpAny _ _ _ _ _ _ _ (World.drew _)
            refine wpAny_take (i:=2) (v:=pq R 0) rfl ah ah ah (fun c a w h=>h) (Or.inl ⟨aH,fun w=>aY⟩) ?_;refine wpAny_take (i:=0) (v:=pq C 3) rfl ah ah ah (fun c a w h=>h) (Or.inl ⟨aH,fun w=>aY⟩) ?_;refine wpAny_ready (rs:=[1,3]) ah aA ?_;refine ver rfl (fun K hK=>?_) (ver rfl (fun K hK=>?_) veu)
            . go_simp
              refine hK _ _ ?_;clear hK K;refine wpAny_ready (rs:=[3]) ah aA ?_;refine ver rfl (fun K hK=>?_) veu;refine zbh aH 200 _ _ aH ztg _ aH zai (HE.out _ BZ.out.rd.drew) ?_;exact jx
            . refine zbh aH 200 _ _ aH ztg _ aH zai (HE.out _ BZ.out.rd.drew) ?_
              exact jx
          | some r=>
            obtain ⟨y,ly⟩:=r
            have HE:Hid (∀ w',Rd R a cap ts w' l'->qc 200 #[pq R 0] w' fun e AC=>∃ u,e = .returned u/\(Keeps R w' AC/\z6h (w'.heap.size<=·) y AC u/\Rd R a cap ts AC ly)):=fun w' h'=>by
             refine (zvd R cap a ts _ w' h').mono ?_;exact fF
            have DO:Hid (zfq (l13.length+1) [] l13=zfq g (A5++[y]) ly):=by show _=_;rw [HG.out];unfold zfq;rw [if_neg eE,hx];cases g<;>rfl
            have Ji:=zvb hx;clear hx;go_wp2_with fail
            go_region_law (first
             | (refine zce aH 200 _ _ aH ztg _ aH (HE.out _ BZ.out.rd.drew) ?_
                rintro u8 w8 ⟨AO,⟨p1,q1,p2,q2,p3,q3,rfl,hy0,Di,D0,DB⟩,Cu⟩;have DA:DZ.heap.size<=w8.heap.size:=AO.size;have CN:=hid (BZ.out.drew.keeps AO Cu);have Jn:w8.cell? (qa C 3)=some v:=(AO.cell (show C<DZ.heap.size from KA) ae).trans hvw23
                have Jc:C<w8.heap.size:=ae
                have D8:Hid (Row Dg.heap.size 118 5 w8 v A5.length (zio A5)):=(FB.out.keeps (Keeps.refl R DZ).drew ae).keeps AO ae)
             | (refine zbm aH _ _ 24 aH Dg.heap.size 118 _ 5 96 Tryz.underlying24 Tryz.infoP60 rfl aq w8 _ A5.length (zio A5) y.ds aH D8.out #[.string y.name,.bool y.pub,.slice p1 y.params.length q1,.slice p2 y.locals.length q2,.slice p3 y.body.length q3] _ rfl aH rfl (DZ.heap.size<=·) (z20 hy0 Di D0 DB) (fun b hb hA=>?_) ae aq ae ?_
                focus (exact Iz.out hb hA DA)
                intro g9 c9 w9 DP B7 EQ;obtain ⟨k0,k1,k2,k3,k4,k5⟩:=zaa (CN.out.belowB B7 ae).cb
                have JW:C<w9.heap.size:=ae
                have CZ:=hid ((CN.out.belowB B7 ae).put 3 (.slice (some (qa g9 0)) (A5.length+1) c9))
                have C9:=hid (DP.set (p:=(qa C 3)) (by show C<Dg.heap.size;omega) (.slice (some (qa g9 0)) (A5.length+1) c9))))
            all_goals
             clear HE;go_wp2_with fail;go_roundw
             case rel=>exact ⟨g,A5++[y],ly,_,DO,ae,aF,CZ.out,by rw [vaj];rw [show zio (A5++[y])=zio A5++y.ds from by simp [zio]];exact C9.out⟩
             case measure=>rw [CZ.out.rd.left,EN.out];omega
        | true=>
          refine (zbn R cap a ts l' zto wr aq HF.out.rd hs).mono ?_;rintro e DZ ⟨rfl,Aq,Ak⟩;have BZ:=hid (HF.out.keeps Ak Aq);have FB:=hid (HO.out.keeps Ak ae)
          have IQ:Hid (zci l=(match pB l'.tail with
           | none=>none
           | some (b,l5)=>if skB l5 tRb then some (⟨nm,us,ds,A5,b⟩,l5.tail) else none)):=by show _=_;rw [IR.out];unfold pM3;rw [HG.out];unfold zfq;rw [if_pos hs]
          obtain ⟨O1,c23,rfl,hls⟩:=FB.out.slice;have Hx:Dg.heap.size<=wr.heap.size:=HF.out.mv.1;have ML:=Ak.size;have Mf:Hid (EAt DZ (C<·) O1 A5.length (zio A5)):=low hls ae;have IG:Hid (EAt DZ (C<·) a7 us.length (zak us)):=BZ.out.at' KQ.out;have Ls:Hid (EAt DZ (C<·) KI ds.length (zku ds)):=BZ.out.at' Mr.out;have HW:=hid BZ.out.restart;have Sk:C<DZ.heap.size:=lt_of_heap BZ.out.cb;clear Ak Aq HF HO hs hls HG IR BZ FB EN KQ Mr;go_wp2_with fail;refine (zra R cap a ts l'.tail DZ HW.out.rd).mono ?_;rintro e Hv ⟨KK,⟨hn,rfl⟩ | ⟨b,l4,v,hn,rfl,⟨a4,c4,rfl,Aj⟩,RD⟩⟩
          . exact ⟨rfl,HW.out.ke.trans KK,Or.inl ⟨by rw [IQ.out,hn],rfl⟩⟩
          have IP:Hid (zci l=if skB l4 tRb then some (⟨nm,us,ds,A5,b⟩,l4.tail) else none):=by show _=_;rw [IQ.out,hn]
          have IY:=hid (HW.out.keeps KK RD);have QZ:=KK.size;have GM:Hid (FSt R a cap ts w DZ C 27 zc2 #[.string nm,.slice a7 us.length c7,.slice KI ds.length c13,.slice O1 A5.length c23,.slice a4 b.length c4] (Hv.setCell (qa C 4) (.slice a4 b.length c4)) l4):=IY.out.put 4 (.slice a4 b.length c4);have H4:Hid (EAt (Hv.setCell (qa C 4) (.slice a4 b.length c4)) (C<·) a4 b.length (zbs b)):=Aj.moves (((zad.refl Hv _).set (fun k _ hk=>by show k≠C;omega) _).trans ⟨vaa _,fun k _ hk=>⟨ae,rfl⟩⟩);obtain ⟨h0,h1,h2,h3,h4,h5⟩:=zaa IY.out.cb
          have Rm:C<Hv.heap.size:=ae
          have QY:(Hv.setCell (qa C 4) (.slice a4 b.length c4)).heap.size=Hv.heap.size:=bx
          clear KK RD hn IY HW Aj IQ;go_wp2_with fail;generalize Hv.setCell (qa C 4) (.slice a4 b.length c4)=w25 at *;clear h0 h1 h2 h3 h4 h5;refine (zfy R cap _ a ts l4 tRb w25 ae GM.out.rd aq).mono ?_;rintro e QS ⟨KK,⟨s1,rfl⟩ | ⟨s1,rfl,RD⟩⟩
          . exact ⟨rfl,GM.out.ke.trans KK,Or.inl ⟨by rw [IP.out,if_neg cM],rfl⟩⟩
          have L1:Hid (zci l=some (⟨nm,us,ds,A5,b⟩,l4.tail)):=by show _=_;rw [IP.out,if_pos s1]
          have DV:=hid (GM.out.keeps KK RD);have hm:Hid (zad w25 (C<·) QS (C<·)):=(zad.refl w25 _).keeps KK (fun k _ hk=>ae);have IX:=hid (z8l (m:=⟨nm,us,ds,A5,b⟩) DV.out L1.out B4 (DV.out.at' IG.out) (DV.out.at' Ls.out) (DV.out.at' Mf.out) (H4.out.moves hm.out));obtain ⟨h0,h1,h2,h3,h4,h5⟩:=zaa DV.out.cb;obtain ⟨g0,g1,g2,g3,g4,g5⟩:=zaa DV.out.zb
          have Ai:w.heap.size≠C:=ae
          clear KK RD DV GM H4 hm IG Ls Mf IP L1 s1;go_wp2_with fail;refine bodyPost_ret (v:=.agg #[.string nm,.slice a7 us.length c7,.slice KI ds.length c13,.slice O1 A5.length c23,.slice a4 b.length c4]) (by simp [results,Tryz.results159,go_sem,g0,g1,g2,g3,g4]) rfl IX.out
end Go.Proofs.YtndkhgakfodldaaGreatDoor
