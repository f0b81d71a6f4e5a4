import Derived.Test.YtndkhgakfodldaaGreatDoorPj
import Derived.Deep.DeepCutAuto
set_option maxRecDepth 100000
set_option maxHeartbeats 16000000
open Go.Proofs.Tryz
open List renaming length → Ln
namespace Go.Proofs.YtndkhgakfodldaaGreatDoor
open Go.RowKit Go.Shelf
variable {A:Nat->Prop} {C R a9 a4 c3 I K n:Nat} {a Y a5 a7 y:OA} {c d:List Tk} {p:fH} {w wr b:World}
structure gG (R:Nat) (a:OA) (cap:Nat) (ts:List Tk) (w ws:World) (C:Nat) (T:TypeId) (Z:Obj) (cs:Array Value) (wr:World) (l:List Tk):Prop where
 rd:eG R a cap ts wr l
 ke:eI R w wr
 zb:wr.heap[w.heap.size]? = some Z
 cb:wr.heap[C]? = some (.cells cs T (0,0))
 mv:eQ ws (C<·) wr (C<·)
 hR:R<w.heap.size
 hC:w.heap.size<C
 hs:C<ws.heap.size
 r0:∃ l0,eG R a cap ts w l0
section
variable {R I C:Nat} {a:OA} {d l c:List Tk} {w b wr r:World} {T:TypeId} {e:Obj} {cs:Array Value}
theorem gG.keeps (h:gG R a I d w b C T e cs wr l) (N:eI R wr r) (W:eG R a I d r c):gG R a I d w b C T e cs r c:=
 have G:=h.hR;have J:=h.hC
 ⟨W,h.ke.trans N,(N.block _ (lt_of_heap h.zb) (by omega)).trans h.zb,(N.block _ (lt_of_heap h.cb) (by omega)).trans h.cb,h.mv.keeps N (fun V _ F=>by omega),h.hR,h.hC,h.hs,h.r0⟩
theorem gG.later (h:gG R a I d w b C T e cs wr l) (F:et wr r):gG R a I d w b C T e cs r l:=h.keeps (eI.of_below F R) (h.rd.later F)
theorem gG.alloc (h:gG R a I d w b C T e cs wr l) (o:Obj):gG R a I d w b C T e cs (wr.alloc o) l:=h.later ((Below.refl _ _).alloc (eD _) o)
theorem gG.drew (h:gG R a I d w b C T e cs wr l):gG R a I d w b C T e cs wr.drew l:=h.keeps (eI.refl R wr).drew h.rd.drew
theorem gG.put (h:gG R a I d w b C T e cs wr l) (i:Nat) (u:Value):gG R a I d w b C T e (cs.setIfInBounds i u) (wr.setCell (ep C i) u) l:=by
 obtain ⟨g,a3⟩:=h.r0;have J:=h.hC;exact ⟨h.rd.setAbove a3 (by show w.heap.size<=C;omega) u,h.ke.set (by show w.heap.size<=C;omega) u,(fa (by show w.heap.size≠C;omega) u).trans h.zb,heap_set h.cb u,h.mv.set (fun V _ F=>by show V≠C;omega) u,h.hR,h.hC,h.hs,h.r0⟩
theorem gG.belowB {Y:Nat} (h:gG R a I d w b C T e cs wr l) (F:Below Y wr r) (p:b.heap.size<=Y):gG R a I d w b C T e cs r l:=by
 obtain ⟨g,a3⟩:=h.r0;have J:=h.hC;have S:=h.hs;have aJ:Below w.heap.size wr r:=F.mono (by omega);exact ⟨h.rd.belowOf a3 aJ,h.ke.belowOf aJ,(F.block _ (by omega)).trans h.zb,(F.block _ (by omega)).trans h.cb,⟨iC h.mv.1 F.size,fun V ai aB=>⟨aB,(F.block V (by omega)).trans (h.mv.2 V ai aB).2⟩⟩,h.hR,h.hC,h.hs,h.r0⟩
theorem gG.restart (h:gG R a I d w b C T e cs wr l):gG R a I d w wr C T e cs wr l:=
 ⟨h.rd,h.ke,h.zb,h.cb,eQ.refl _ _,h.hR,h.hC,lt_of_heap h.cb,h.r0⟩
theorem gG.at (h:gG R a I d w b C T e cs wr l) {ds:List D} (k:eU b (K<=·) y n ds) (M:C<K):eU wr (C<·) y n ds:=
 k.moves ⟨h.mv.1,fun V G J=>⟨gl M J,(h.mv.2 V G (gl M J)).2⟩⟩
theorem gG.at' (h:gG R a I d w b C T e cs wr l) {ds:List D} (k:eU b (C<·) y n ds):eU wr (C<·) y n ds:=k.moves h.mv
end
def wK (A:Nat->Prop) (p:fH) (w:World) (v:Value):Prop:=∃ Y a9 a5 a4 a7 c3,v = .agg #[.string p.name,.bool p.pub,.slice Y (Ln p.params) a9,.slice a5 (Ln p.locals) a4,.slice a7 (Ln p.body) c3]/\p.name.size<=maxLen/\eU w A Y (Ln p.params) (fj p.params)/\eU w A a5 (Ln p.locals) (fj p.locals)/\eU w A a7 (Ln p.body) (fw p.body)
abbrev oh:Obj:=.cells #[.string ⟨#[]⟩,.bool false,eu,eu,eu] 118 (0,0)
theorem mp:Enters prog 196:=enters_of func196 (by kernel_rfl) rfl
theorem Gc {O:Option (fH × List Tk)} (h:gG R a I d w b C 118 oh #[.string p.name,.bool p.pub,.slice Y (Ln p.params) a9,.slice a5 (Ln p.locals) a4,.slice a7 (Ln p.body) c3] wr c) (W:O=some (p,c)) (U:p.name.size<=maxLen) (G:eU wr (C<·) Y (Ln p.params) (fj p.params)) (J:eU wr (C<·) a5 (Ln p.locals) (fj p.locals)) (S:eU wr (C<·) a7 (Ln p.body) (fw p.body)) :
 gk R a I d w O (wK (w.heap.size<=·)) (.returned (.agg #[.string p.name,.bool p.pub,.slice Y (Ln p.params) a9,.slice a5 (Ln p.locals) a4,.slice a7 (Ln p.body) c3])) (set5 wr w.heap.size (.string p.name) (.bool p.pub) (.slice Y (Ln p.params) a9) (.slice a5 (Ln p.locals) a4) (.slice a7 (Ln p.body) c3)):=by
 obtain ⟨g,a3⟩:=h.r0;have a1:=h.hC
 have a8:eQ wr (C<·) (set5 wr w.heap.size (.string p.name) (.bool p.pub) (.slice Y (Ln p.params) a9) (.slice a5 (Ln p.locals) a4) (.slice a7 (Ln p.body) c3)) (w.heap.size<=·):=
  (((eQ.refl wr (C<·)).set5 (b:=w.heap.size) (fun V _ F=>by omega) _ _ _ _ _)).trans ⟨eD _,fun V _ F=>⟨by omega,rfl⟩⟩
 exact ⟨h.ke.set5 (eD _) _ _ _ _ _,Or.inr ⟨p,c,_,W,rfl,⟨Y,a9,a5,a4,a7,c3,rfl,U,G.moves a8,J.moves a8,S.moves a8⟩,h.rd.set5 a3 (eD _) _ _ _ _ _⟩⟩
theorem Ax (R I:Nat) (a:OA) (d l:List Tk) (w:World) (h:eG R a I d w l) :
 ew 200 #[eL R 0] w (gk R a I d w (jn l) (wK (w.heap.size<=·))):=by
 have z:Hid (eG R a I d w l):=h;have ad:=h.lt
 have bD:Ln l<=4096:=by
  obtain ⟨k,_,rfl,_⟩:=h.idx;have:=h.len
  rw [nM];omega
 have ck:=wJ l;clear h;go_enter func200,ntmps200;go_wp2_with fail;refine (wy R I a d l fQ _ (by decide) (z.alloc _)).mono ?_;rintro e eq ⟨rfl,RD,f⟩;have a0:Hid (eG R a I d eq (hH l)):=RD;have al:Hid (eI R w eq):=((eI.refl R w).alloc _).trans f;have b0:=f.size;simp at b0;have B:Hid (eq.heap[w.heap.size]? = some oh):=(f.block w.heap.size (by simp) (by omega)).trans (eT _ _);clear RD f;generalize a8:eF l fQ=pub at *;have bh:=hid a8;clear a8;go_wp2_with fail
 obtain ⟨w2,ae⟩:∃ w2,w2=eq.alloc (me ⟨#[]⟩ pub none 0 0 none 0 0 none 0 0):=⟨_,rfl⟩
 have bl:w2.heap.size=eq.heap.size+1:=by rw [ae];simp
 have a9:Hid (gG R a I d w w2 eq.heap.size 118 oh #[.string ⟨#[]⟩,.bool pub,eu,eu,eu] w2 (hH l)):=
  ⟨by rw [ae];exact a0.alloc _,by rw [ae];exact al.alloc _,by rw [ae];exact fF B,by rw [ae];exact eT _ _,eQ.refl _ _,ad,by omega,by omega,l,z⟩
 rw [← ae];clear ae a0 al B;generalize a1:eq.heap.size=C at *;clear a1 eq;refine (jE R I _ a d (hH l) xq w2 bl.symm a9.rd (by decide)).mono ?_;rintro e eC ⟨f,⟨D,rfl⟩ | ⟨D,rfl,RD⟩⟩
 . exact ⟨rfl,a9.ke.trans f,Or.inl ⟨by unfold jn;rw [if_neg (by simp [D])],rfl⟩⟩
 have m:=hid (a9.keeps f RD);have bE:=f.size;have bx:=fN (by decide) D;clear RD f a9;go_wp2_with fail;refine (kN R I a d (hH l).tail eC m.rd).mono ?_;rintro e eA ⟨f,⟨U,rfl⟩ | ⟨x,i,v,U,rfl,⟨rfl,bu⟩,RD⟩⟩
 . exact ⟨rfl,m.ke.trans f,Or.inl ⟨by unfold jn;rw [if_pos D,U],rfl⟩⟩
 have aB:Hid (jn l=if eF i iU then (match kQ i.tail with
  | none=>none
  | some (H,t)=>(match hk kC (Ln t+1) [] t with
    | none=>none
    | some (y,a2)=>(match pB a2 with | none=>none | some (V,i)=>some (⟨x,pub,H,y,V⟩,i)))) else none):=by show jn l=_;unfold jn;rw [if_pos D,U,bh.out]<;>rfl
 have av:=hid (m.keeps f RD);have bp:=f.size;have b9:=jZ U;clear RD f m U D bh;have aM:=hid (av.put 0 (.string x))
 have bK:(eA.setCell (ep C 0) (.string x)).heap.size=eA.heap.size:=by simp only [gU]
 obtain ⟨a3,G,J,S,a6,ap⟩:=fi av.cb;have bH:C<eA.heap.size:=lt_of_heap av.cb;go_wp2_with fail;generalize eA.setCell (ep C 0) (.string x)=eJ at *;clear a3 G J S a6 ap av;refine (jE R I _ a d i iU eJ (by omega) aM.rd (by decide)).mono ?_;rintro e eZ ⟨f,⟨D,rfl⟩ | ⟨D,rfl,RD⟩⟩
 . exact ⟨rfl,aM.ke.trans f,Or.inl ⟨by rw [aB.out,if_neg (by simp [D])],rfl⟩⟩
 have ao:Hid (jn l=(match kQ i.tail with
  | none=>none
  | some (H,t)=>(match hk kC (Ln t+1) [] t with
    | none=>none
    | some (y,a2)=>(match pB a2 with | none=>none | some (V,i)=>some (⟨x,pub,H,y,V⟩,i))))):=by show jn l=_;rw [aB.out,if_pos D]
 have aU:Hid (gG R a I d w w2 C 118 oh #[.string x,.bool pub,eu,eu,eu] eZ i.tail):=aM.keeps f RD;have bo:=f.size;have aS:=fN (by decide) D;clear RD f aM D aB;go_wp2_with fail;refine (wy R I a d i.tail ib eZ (by decide) aU.rd).mono ?_;rintro e eW ⟨rfl,RD,f⟩;have K:=hid (aU.keeps f RD);have b7:=f.size;clear RD f aU
 go_upto_if 18 with fail
 go_cut [] (fun wc=>∃ (H:List ByteArray) (ai:List Tk) (v:Value),Hid (kQ i.tail=some (H,ai))/\Ln ai<Ln l/\Hid (gG R a I d w w2 C 118 oh #[.string x,.bool pub,v,eu,eu] wc ai)/\Hid (Row w2.heap.size 9 1 wc v (Ln H) (fj H)))
 case first =>
  generalize bQ:i.tail=l6 at *
  have c2:Ln l6<Ln l:=by omega
  cases Z:eF l6 ib with
  | true=>
    rw [Z] at K;go_wp2_with fail;go_meet;exact ⟨[],l6.tail,eu,(by show _=_;unfold kQ;rw [if_pos Z]),(by simp;omega),K,Row.nil _ _ _ _⟩
  | false =>
    rw [Z] at K;have bj:Hid (gG R a I d w w2 C 118 oh #[.string x,.bool pub,eu,eu,eu] eW l6):=K;clear K;have K:=bj;clear bj;obtain ⟨a3,G,hvw7,S,a6,ap⟩:=fi K.cb;have bF:C<eW.heap.size:=lt_of_heap K.cb;have aN:Hid (Row w2.heap.size 9 1 eW (eu) 0 (fj [])):=Row.nil _ _ _ _
    have bI:Hid (∀ {V:Nat} {M:World},V<M.heap.size->False->eW.heap.size<=M.heap.size->ld w2.heap.size (eu) V):=fun _ h _=>h.elim
    go_wp2_with fail
    cases Q:hS l6 with
    | none=>
      have aH:Hid (∀ r,eG R a I d r l6->ew 196 #[eL R 0] r fun e T=>e = .panicked gL/\eI R r T):=fun r q=>by
       refine (kN R I a d _ r q).mono ?_;rintro e T ⟨N,⟨_,rfl⟩ | ⟨_,_,_,h,_⟩⟩
       . exact ⟨rfl,N⟩
       . rw [Q] at h;cases h
      have A:Hid (jn l=none):=by show _=_;rw [ao.out];unfold kQ;rw [if_neg (by simp [Z]),Q]
      clear Q;go_wp2_with fail;refine wp_region_any (by kernel_rfl) ?_
      change wpAny _ _ _ _ _ _ _ (World.drew _)
      refine wpAny_take (i:=2) (v:=eL R 0) rfl (by kernel_rfl) (by kernel_rfl) (by kernel_rfl) (fun c a w h=>h) (Or.inl ⟨by rfl,fun w=>by go_simp⟩) ?_;refine wpAny_take (i:=0) (v:=eL C 2) rfl (by kernel_rfl) (by kernel_rfl) (by kernel_rfl) (fun c a w h=>h) (Or.inl ⟨by rfl,fun w=>by go_simp⟩) ?_;refine wpAny_ready (rs:=[1,3]) (by kernel_rfl) (by simp) ?_;refine hO rfl (fun j aA=>?_) (hO rfl (fun j aA=>?_) jz)
      . go_simp
        refine aA _ _ ?_;clear aA j;refine wpAny_ready (rs:=[3]) (by kernel_rfl) (by simp) ?_;refine hO rfl (fun j aA=>?_) jz;refine lg (by rfl) 196 _ _ (by rfl) mp _ (by rfl) gL (aH _ K.rd.drew) ?_;intro aY hk8;exact ⟨rfl,K.ke.drew.trans hk8,Or.inl ⟨A,rfl⟩⟩
      . refine lg (by rfl) 196 _ _ (by rfl) mp _ (by rfl) gL (aH _ K.rd.drew) ?_
        intro aY hk8;exact ⟨rfl,K.ke.drew.trans hk8,Or.inl ⟨A,rfl⟩⟩
    | some O =>
      obtain ⟨o,ly⟩:=O
      have aH:Hid (∀ r,eG R a I d r l6->ew 196 #[eL R 0] r fun e T=>∃ u,e = .returned u/\(eI R r T/\(u = .string o/\o.size<=maxLen)/\eG R a I d T ly)):=fun r q=>by
       refine (kN R I a d _ r q).mono ?_;rintro e T ⟨N,⟨h,_⟩ | ⟨b8,c,u,h,rfl,W,ez⟩⟩
       . rw [Q] at h;cases h
       . rw [Q] at h
         obtain ⟨rfl,rfl⟩:=fD (fe h);exact ⟨u,rfl,N,W,ez⟩
      have ar:Hid (kQ l6=kP (Ln ly+1) [o] ly):=by show _=_;unfold kQ;rw [if_neg (by simp [Z]),Q]
      have b4:=jZ Q;clear Q;go_wp2_with fail
      go_region_law (first
       | (refine og (by rfl) 196 _ _ (by rfl) mp _ (by rfl) (aH _ K.rd.drew) ?_
          rintro u8 aY ⟨s,⟨rfl,hy8⟩,a4⟩;have aK:eW.heap.size<=aY.heap.size:=s.size;have Y:=hid (K.drew.keeps s a4);have b5:aY.cell? (ep C 2)=some (eu):=(s.cell (show C<eW.heap.size from bF) (by omega)).trans hvw7
          have b2:C<aY.heap.size:=by omega
          have ah:Hid (Row w2.heap.size 9 1 aY (eu) 0 (fj [])):=(aN.keeps (eI.refl R eW).drew (by omega)).keeps s (by omega))
       | (refine qk (by rfl) _ _ 22 (by rfl) w2.heap.size 9 _ 1 16 Tryz.underlying22 Tryz.infoP9 rfl (by decide) aY _ 0 (fj []) [.str o] (by rfl) ah #[.string o] _ rfl (by rfl) rfl (fun _=>False) (.cons (mx hy8) .nil) (fun V F aT=>?_) (by omega) (by decide) (by omega) ?_
          focus (exact bI F aT aK)
          intro E L bd az bv co;obtain ⟨ag,ak,au,aI,bq,c9⟩:=fi (Y.belowB bv (by omega)).cb
          have bi:C<bd.heap.size:=by omega
          have a5:=hid ((Y.belowB bv (by omega)).put 2 (.slice (some (ep E 0)) (0+1) L))
          have aF:=hid (az.set (p:=(ep C 2)) (by show C<w2.heap.size;omega) (.slice (some (ep E 0)) (0+1) L))))
      all_goals
       clear aH;go_wp2_with fail
       go_loopw [] (fun wr=>∃ (g:Nat) (P:List ByteArray) (c:List Tk) (v:Value),Hid (kQ l6=kP g P c)/\Ln c+1<=g/\Ln P+Ln c<=Ln l/\gG R a I d w w2 C 118 oh #[.string x,.bool pub,v,eu,eu] wr c/\Row w2.heap.size 9 1 wr v (Ln P) (fj P)) (fun wr=>lf R (Ln d) wr)
       case atStart=>exact ⟨_,[o],ly,_,ar,eD _,by simp;omega,a5,aF⟩
       case round=>
        obtain ⟨g,P,c,v,aE,af,hacc,br,ba⟩:=hrel;have p:=hid br;have aG:=hid ba;have aJ:Hid (lf R (Ln d) wr=Ln c):=br.rd.left
        obtain ⟨g,rfl⟩:∃ aj,g=aj+1:=⟨g - 1,by omega⟩
        clear br ba;go_wp2_with fail;refine (Aj R I _ a d c oE ib _ (by simp) p.rd (by decide) (by decide)).mono ?_;rintro e eC ⟨ab,⟨G,J,rfl⟩ | ⟨G,rfl,b3⟩ | ⟨G,J,rfl,b3⟩⟩
        . exact ⟨rfl,p.ke.trans ab,Or.inl ⟨by rw [ao.out,aE.out];unfold kP;rw [if_neg (by simp [G]),if_neg (by simp [J])],rfl⟩⟩
        . have bx:=fN (by decide) G
          have bE:=ab.size;have m:=hid (p.keeps ab b3);have aq:=hid (aG.keeps ab (by omega));obtain ⟨a3,aa,hvw3,S,a6,ap⟩:=fi m.cb;have aR:C<eC.heap.size:=lt_of_heap m.cb
          have b1:Hid (∀ {V:Nat} {M:World},V<M.heap.size->False->eC.heap.size<=M.heap.size->ld w2.heap.size v V):=fun _ h _=>h.elim
          clear ab b3 p aG;go_wp2_with fail
          cases Q:hS c.tail with
          | none=>
            have aH:Hid (∀ r,eG R a I d r c.tail->ew 196 #[eL R 0] r fun e T=>e = .panicked gL/\eI R r T):=fun r q=>by
             refine (kN R I a d _ r q).mono ?_;rintro e T ⟨N,⟨_,rfl⟩ | ⟨_,_,_,h,_⟩⟩
             . exact ⟨rfl,N⟩
             . rw [Q] at h;cases h
            have A:Hid (jn l=none):=by show _=_;rw [ao.out,aE.out];unfold kP;rw [if_pos G,Q]
            clear Q;go_wp2_with fail;refine wp_region_any (by kernel_rfl) ?_
            change wpAny _ _ _ _ _ _ _ (World.drew _)
            refine wpAny_take (i:=2) (v:=eL R 0) rfl (by kernel_rfl) (by kernel_rfl) (by kernel_rfl) (fun c a w h=>h) (Or.inl ⟨by rfl,fun w=>by go_simp⟩) ?_;refine wpAny_take (i:=0) (v:=eL C 2) rfl (by kernel_rfl) (by kernel_rfl) (by kernel_rfl) (fun c a w h=>h) (Or.inl ⟨by rfl,fun w=>by go_simp⟩) ?_;refine wpAny_ready (rs:=[1,3]) (by kernel_rfl) (by simp) ?_;refine hO rfl (fun j aA=>?_) (hO rfl (fun j aA=>?_) jz)
            . go_simp
              refine aA _ _ ?_;clear aA j;refine wpAny_ready (rs:=[3]) (by kernel_rfl) (by simp) ?_;refine hO rfl (fun j aA=>?_) jz;refine lg (by rfl) 196 _ _ (by rfl) mp _ (by rfl) gL (aH _ m.rd.drew) ?_;intro aY hk8;exact ⟨rfl,m.ke.drew.trans hk8,Or.inl ⟨A,rfl⟩⟩
            . refine lg (by rfl) 196 _ _ (by rfl) mp _ (by rfl) gL (aH _ m.rd.drew) ?_
              intro aY hk8;exact ⟨rfl,m.ke.drew.trans hk8,Or.inl ⟨A,rfl⟩⟩
          | some O=>
            obtain ⟨o,ly⟩:=O
            have aH:Hid (∀ r,eG R a I d r c.tail->ew 196 #[eL R 0] r fun e T=>∃ u,e = .returned u/\(eI R r T/\(u = .string o/\o.size<=maxLen)/\eG R a I d T ly)):=fun r q=>by
             refine (kN R I a d _ r q).mono ?_;rintro e T ⟨N,⟨h,_⟩ | ⟨b8,c,u,h,rfl,W,ez⟩⟩
             . rw [Q] at h;cases h
             . rw [Q] at h
               obtain ⟨rfl,rfl⟩:=fD (fe h);exact ⟨u,rfl,N,W,ez⟩
            have ar:Hid (kQ l6=kP g (P++[o]) ly):=by show _=_;rw [aE.out];unfold kP;rw [if_pos G,Q];cases g<;>rfl
            have b4:=jZ Q;have an:=aJ;clear Q;go_wp2_with fail
            go_region_law (first
             | (refine og (by rfl) 196 _ _ (by rfl) mp _ (by rfl) (aH _ m.rd.drew) ?_
                rintro u8 aY ⟨s,⟨rfl,hy8⟩,a4⟩;have aK:eC.heap.size<=aY.heap.size:=s.size;have Y:=hid (m.drew.keeps s a4);have b5:aY.cell? (ep C 2)=some v:=(s.cell (show C<eC.heap.size from aR) (by omega)).trans hvw3
                have b2:C<aY.heap.size:=by omega
                have ah:Hid (Row w2.heap.size 9 1 aY v (Ln P) (fj P)):=(aq.keeps (eI.refl R eC).drew (by omega)).keeps s (by omega))
             | (refine qk (by rfl) _ _ 22 (by rfl) w2.heap.size 9 _ 1 16 Tryz.underlying22 Tryz.infoP9 rfl (by decide) aY _ (Ln P) (fj P) [.str o] (by rfl) ah #[.string o] _ rfl (by rfl) rfl (fun _=>False) (.cons (mx hy8) .nil) (fun V F aT=>?_) (by omega) (by decide) (by omega) ?_
                focus (exact b1 F aT aK)
                intro E L bd az bv co;obtain ⟨ag,ak,au,aI,bq,c9⟩:=fi (Y.belowB bv (by omega)).cb
                have bi:C<bd.heap.size:=by omega
                have a5:=hid ((Y.belowB bv (by omega)).put 2 (.slice (some (ep E 0)) (Ln P+1) L))
                have aF:=hid (az.set (p:=(ep C 2)) (by show C<w2.heap.size;omega) (.slice (some (ep E 0)) (Ln P+1) L))))
            all_goals
             clear aH;go_wp2_with fail;go_roundw
             case rel=>exact ⟨g,P++[o],ly,_,ar,by omega,by simp;omega,a5,by rw [gn];rw [show fj (P++[o])=fj P++[.str o] from by simp [fj]];exact aF⟩
             case measure=>rw [a5.out.rd.left,aJ.out];omega
        . have bm:Hid (kQ l6=some (P,c.tail)):=by show _=_;rw [aE.out];unfold kP;rw [if_neg (by simp [G]),if_pos J]
          have m:=hid (p.keeps ab b3);have aq:=hid (aG.keeps ab (by omega));clear ab b3 p aG;go_wp2_with fail;go_meet;exact ⟨P,c.tail,v,bm,by simp;omega,m,aq⟩
 case rest =>
  obtain ⟨H,ai,v8,HPp,bw,Y,ah⟩:=hcut;obtain ⟨bc,c8,rfl,hps⟩:=ah.slice;have bk:=hid hps
  have aL:Hid (jn l=(match hk kC (Ln ai+1) [] ai with
   | none=>none
   | some (y,a2)=>(match pB a2 with | none=>none | some (V,i)=>some (⟨x,pub,H,y,V⟩,i)))):=by show _=_;rw [ao.out,HPp.out]
  have aO:=hid Y.restart;have bG:C<wc.heap.size:=lt_of_heap Y.cb;have bJ:w2.heap.size<=wc.heap.size:=Y.mv.1;clear hps ah ao HPp K Y;go_wp2_with fail
  go_loopw [] (fun wr=>∃ (g:Nat) (P:List ByteArray) (c:List Tk) (v:Value),Hid (hk kC (Ln ai+1) [] ai=hk kC g P c)/\Ln c+1<=g/\Ln P+Ln c<=Ln l/\gG R a I d w wc C 118 oh #[.string x,.bool pub,.slice bc (Ln H) c8,v,eu] wr c/\Row wc.heap.size 9 1 wr v (Ln P) (fj P)) (fun wr=>lf R (Ln d) wr)
  case atStart=>exact ⟨_,[],ai,_,rfl,eD _,by simp;omega,aO,Row.nil _ _ _ _⟩
  case round=>
   obtain ⟨g,P,c,v,aE,af,hacc,br,ba⟩:=hrel;have p:=hid br;have aG:=hid ba;have aJ:Hid (lf R (Ln d) wr=Ln c):=br.rd.left
   obtain ⟨g,rfl⟩:∃ aj,g=aj+1:=⟨g - 1,by omega⟩
   clear br ba aO;go_wp2_with fail
   cases Z:eF c kC with
   | true =>
     refine (jR R I a d c kC wr (by decide) p.rd Z).mono ?_;rintro e eC ⟨rfl,b3,ab⟩;have bx:=fN (by decide) Z;have bE:=ab.size;have m:=hid (p.keeps ab b3);have aq:=hid (aG.keeps ab (by omega));obtain ⟨a3,G,J,hvw3,a6,ap⟩:=fi m.cb;have aR:C<eC.heap.size:=lt_of_heap m.cb
     have b1:Hid (∀ {V:Nat} {M:World},V<M.heap.size->False->eC.heap.size<=M.heap.size->ld wc.heap.size v V):=fun _ h _=>h.elim
     have aX:wc.heap.size<=wr.heap.size:=p.mv.1;clear ab b3 p aG;go_wp2_with fail
     cases Q:hS c.tail with
     | none=>
       have aH:Hid (∀ r,eG R a I d r c.tail->ew 196 #[eL R 0] r fun e T=>e = .panicked gL/\eI R r T):=fun r q=>by
        refine (kN R I a d _ r q).mono ?_;rintro e T ⟨N,⟨_,rfl⟩ | ⟨_,_,_,h,_⟩⟩
        . exact ⟨rfl,N⟩
        . rw [Q] at h;cases h
       have A:Hid (jn l=none):=by show _=_;rw [aL.out,aE.out];unfold hk;rw [if_pos Z,Q]
       clear Q;go_wp2_with fail;refine wp_region_any (by kernel_rfl) ?_
       change wpAny _ _ _ _ _ _ _ (World.drew _)
       refine wpAny_take (i:=2) (v:=eL R 0) rfl (by kernel_rfl) (by kernel_rfl) (by kernel_rfl) (fun c a w h=>h) (Or.inl ⟨by rfl,fun w=>by go_simp⟩) ?_;refine wpAny_take (i:=0) (v:=eL C 3) rfl (by kernel_rfl) (by kernel_rfl) (by kernel_rfl) (fun c a w h=>h) (Or.inl ⟨by rfl,fun w=>by go_simp⟩) ?_;refine wpAny_ready (rs:=[1,3]) (by kernel_rfl) (by simp) ?_;refine hO rfl (fun j aA=>?_) (hO rfl (fun j aA=>?_) jz)
       . go_simp
         refine aA _ _ ?_;clear aA j;refine wpAny_ready (rs:=[3]) (by kernel_rfl) (by simp) ?_;refine hO rfl (fun j aA=>?_) jz;refine lg (by rfl) 196 _ _ (by rfl) mp _ (by rfl) gL (aH _ m.rd.drew) ?_;intro aY hk8;exact ⟨rfl,m.ke.drew.trans hk8,Or.inl ⟨A,rfl⟩⟩
       . refine lg (by rfl) 196 _ _ (by rfl) mp _ (by rfl) gL (aH _ m.rd.drew) ?_
         intro aY hk8;exact ⟨rfl,m.ke.drew.trans hk8,Or.inl ⟨A,rfl⟩⟩
     | some O=>
       obtain ⟨o,ly⟩:=O
       have aH:Hid (∀ r,eG R a I d r c.tail->ew 196 #[eL R 0] r fun e T=>∃ u,e = .returned u/\(eI R r T/\(u = .string o/\o.size<=maxLen)/\eG R a I d T ly)):=fun r q=>by
        refine (kN R I a d _ r q).mono ?_;rintro e T ⟨N,⟨h,_⟩ | ⟨b8,c,u,h,rfl,W,ez⟩⟩
        . rw [Q] at h;cases h
        . rw [Q] at h
          obtain ⟨rfl,rfl⟩:=fD (fe h);exact ⟨u,rfl,N,W,ez⟩
       have ar:Hid (hk kC (Ln ai+1) [] ai=if eF ly hM then hk kC g (P++[o]) ly.tail else none):=by show _=_;rw [aE.out];unfold hk;rw [if_pos Z,Q];cases g<;>rfl
       have b4:=jZ Q;clear Q;go_wp2_with fail
       go_region_law (first
        | (refine og (by rfl) 196 _ _ (by rfl) mp _ (by rfl) (aH _ m.rd.drew) ?_
           rintro u8 aY ⟨s,⟨rfl,hy8⟩,a4⟩;have aK:eC.heap.size<=aY.heap.size:=s.size;have Y:=hid (m.drew.keeps s a4);have b5:aY.cell? (ep C 3)=some v:=(s.cell (show C<eC.heap.size from aR) (by omega)).trans hvw3
           have b2:C<aY.heap.size:=by omega
           have ah:Hid (Row wc.heap.size 9 1 aY v (Ln P) (fj P)):=(aq.keeps (eI.refl R eC).drew (by omega)).keeps s (by omega))
        | (refine qk (by rfl) _ _ 22 (by rfl) wc.heap.size 9 _ 1 16 Tryz.underlying22 Tryz.infoP9 rfl (by decide) aY _ (Ln P) (fj P) [.str o] (by rfl) ah #[.string o] _ rfl (by rfl) rfl (fun _=>False) (.cons (mx hy8) .nil) (fun V F aT=>?_) (by omega) (by decide) (by omega) ?_
           focus (exact b1 F aT aK)
           intro E L bd az bv co;obtain ⟨ag,ak,au,aI,bq,c9⟩:=fi (Y.belowB bv (by omega)).cb
           have bi:C<bd.heap.size:=by omega
           have a5:=hid ((Y.belowB bv (by omega)).put 3 (.slice (some (ep E 0)) (Ln P+1) L))
           have aF:=hid (az.set (p:=(ep C 3)) (by show C<wc.heap.size;omega) (.slice (some (ep E 0)) (Ln P+1) L))))
       all_goals
        clear aH;go_wp2_with fail
        have bt:(bd.setCell (ep C 3) (.slice (some (ep E 0)) (Ln P+1) L)).heap.size=bd.heap.size:=by simp only [gU]
        generalize bd.setCell (ep C 3) (.slice (some (ep E 0)) (Ln P+1) L)=aw at *;refine (jE R I _ a d ly hM aw (by omega) a5.rd (by decide)).mono ?_;rintro e aZ ⟨n,⟨b,rfl⟩ | ⟨b,rfl,ZR⟩⟩
        . exact ⟨rfl,a5.ke.trans n,Or.inl ⟨by rw [aL.out,ar.out,if_neg (by simp [b])],rfl⟩⟩
        have bb:=hid (a5.keeps n ZR);have bB:=hid (aF.keeps n (by omega));have bZ:=fN (by decide) b
        have bz:Hid (hk kC (Ln ai+1) [] ai=hk kC g (P++[o]) ly.tail):=by show _=_;rw [ar.out,if_pos b]
        clear n ZR b ar a5 aF;go_wp2_with fail;go_roundw
        case rel=>exact ⟨g,P++[o],ly.tail,_,bz,by simp;omega,by simp;omega,bb,by rw [gn];rw [show fj (P++[o])=fj P++[.str o] from by simp [fj]];exact bB⟩
        case measure=>rw [bb.out.rd.left,aJ.out];simp;omega
   | false=>
     refine (jS R I a d c kC wr p.rd Z).mono ?_;rintro e eC ⟨rfl,b3,ab⟩;have m:=hid (p.keeps ab b3);have aq:=hid (aG.keeps ab (by omega))
     have aD:Hid (jn l=(match pB c with | none=>none | some (V,i)=>some (⟨x,pub,H,P,V⟩,i))):=by show _=_;rw [aL.out,aE.out];unfold hk;rw [if_neg (by simp [Z])]
     obtain ⟨a7,c3,rfl,hls⟩:=aq.slice;have bg:=hid hls;have aX:wc.heap.size<=wr.heap.size:=p.mv.1;have bE:=ab.size;clear ab b3 p aG Z hls aL aE;go_wp2_with fail;refine (Ar R I a d c eC m.rd).mono ?_;rintro e eA ⟨f,⟨U,rfl⟩ | ⟨V,i,v,U,rfl,⟨ay,am,rfl,aW⟩,RD⟩⟩
     . exact ⟨rfl,m.ke.trans f,Or.inl ⟨by rw [aD.out,U],rfl⟩⟩
     have b6:Hid (jn l=some (⟨x,pub,H,P,V⟩,i)):=by show _=_;rw [aD.out,U]
     have av:=hid (m.keeps f RD);have bp:=f.size;have bC:C<eC.heap.size:=lt_of_heap m.cb;have aM:Hid (gG R a I d w wc C 118 oh #[.string x,.bool pub,.slice bc (Ln H) c8,.slice a7 (Ln P) c3,.slice ay (Ln V) am] (eA.setCell (ep C 4) (.slice ay (Ln V) am)) i):=av.put 4 (.slice ay (Ln V) am);have be:eQ eC (C<·) (eA.setCell (ep C 4) (.slice ay (Ln V) am)) (C<·):=((eQ.refl eC _).keeps f (fun k _ N=>by have:=m.hC;omega)).set (fun k _ N=>by show k≠C;omega) _;have aP:Hid (eU (eA.setCell (ep C 4) (.slice ay (Ln V) am)) (C<·) bc (Ln H) (fj H)):=aM.at bk (by omega);have ac:Hid (eU (eA.setCell (ep C 4) (.slice ay (Ln V) am)) (C<·) a7 (Ln P) (fj P)):=bg.moves ⟨be.1,fun k G J=>⟨by omega,(be.2 k G (by omega)).2⟩⟩;have X:Hid (eU (eA.setCell (ep C 4) (.slice ay (Ln V) am)) (C<·) ay (Ln V) (fw V)):=aW.moves (((eQ.refl eA _).set (fun k _ N=>by show k≠C;omega) _).trans ⟨eD _,fun k _ N=>⟨by omega,rfl⟩⟩)
     have bA:=hid (Gc (p:=⟨x,pub,H,P,V⟩) aM b6 bu aP ac X);obtain ⟨a3,G,J,S,a6,ap⟩:=fi av.cb;obtain ⟨bM,ax,bf,aQ,bn,bs⟩:=fi av.zb
     have aV:w.heap.size≠C:=by have:=av.hC;omega
     clear f RD U m av aM aW be bg aP ac X aD b6;go_wp2_with fail;refine bodyPost_ret (v:=.agg #[.string x,.bool pub,.slice bc (Ln H) c8,.slice a7 (Ln P) c3,.slice ay (Ln V) am]) (by simp [results,results200,go_sem,bM,ax,bf,aQ,bn]) rfl bA
def sq (n:ByteArray) (us:List ByteArray) (ds:List ge) (a2:List Tk):Option (fh × List Tk):=match lH (Ln a2+1) [] a2 with
 | none=>none
 | some (H,i)=>(match pB i with
   | none=>none
   | some (V,a0)=>if eF a0 lQ then some (⟨n,us,ds,H,V⟩,a0.tail) else none)
def sr (n:ByteArray) (us:List ByteArray) (t:List Tk):Option (fh × List Tk):=match lG (Ln t+1) [] t with
 | none=>none
 | some (y,a2)=>sq n us y a2
def qn (n:ByteArray) (j:List Tk):Option (fh × List Tk):=match hk lm (Ln j+1) [] j with
 | none=>none
 | some (B,t)=>sr n B t
theorem Gd (l:List Tk):kv l=if eF l uy then (match hS l.tail with | none=>none | some (n,j)=>if eF j pA then qn n j.tail else none) else none:=by
 unfold kv qn sr sq;rfl
def oi (A:Nat->Prop) (m:fh) (w:World) (v:Value):Prop:=∃ Y a9 a5 a4 a7 c3 ay am,v = .agg #[.string m.name,.slice Y (Ln m.uses) a9,.slice a5 (Ln m.decls) a4,.slice a7 (Ln m.procs) c3,.slice ay (Ln m.main) am]/\m.name.size<=maxLen/\eU w A Y (Ln m.uses) (fj m.uses)/\eU w A a5 (Ln m.decls) (iD m.decls)/\eU w A a7 (Ln m.procs) (hK m.procs)/\eU w A ay (Ln m.main) (fw m.main)
abbrev jo:Obj:=.cells #[.string ⟨#[]⟩,eu,eu,eu,eu] 27 (0,0)
theorem wL:Enters prog 199:=enters_of func199 (by kernel_rfl) rfl
theorem wM:Enters prog 200:=enters_of func200 (by kernel_rfl) rfl
theorem Ge {d:ge} (h:d.name.size<=maxLen):fG w A d.ds [em d.kind,.string d.name,.bool d.pub,em d.n]:=.cons jX (.cons (mx h) (.cons AM (.cons jX .nil)))
theorem Gf (h:p.name.size<=maxLen) (G:eU w A Y (Ln p.params) (fj p.params)) (J:eU w A a5 (Ln p.locals) (fj p.locals)) (S:eU w A a7 (Ln p.body) (fw p.body)):fG w A p.ds [.string p.name,.bool p.pub,.slice Y (Ln p.params) a9,.slice a5 (Ln p.locals) a4,.slice a7 (Ln p.body) c3]:=
 .cons (mx h) (.cons AM (.cons G.val (.cons J.val (.cons S.val .nil))))
theorem Gg {O:Option (fh × List Tk)} {m:fh} {ay:OA} {am:Nat} (h:gG R a I d w b C 27 jo #[.string m.name,.slice Y (Ln m.uses) a9,.slice a5 (Ln m.decls) a4,.slice a7 (Ln m.procs) c3,.slice ay (Ln m.main) am] wr c) (W:O=some (m,c)) (U:m.name.size<=maxLen) (G:eU wr (C<·) Y (Ln m.uses) (fj m.uses)) (J:eU wr (C<·) a5 (Ln m.decls) (iD m.decls)) (S:eU wr (C<·) a7 (Ln m.procs) (hK m.procs)) (a6:eU wr (C<·) ay (Ln m.main) (fw m.main)) :
 gk R a I d w O (oi (w.heap.size<=·)) (.returned (.agg #[.string m.name,.slice Y (Ln m.uses) a9,.slice a5 (Ln m.decls) a4,.slice a7 (Ln m.procs) c3,.slice ay (Ln m.main) am])) (set5 wr w.heap.size (.string m.name) (.slice Y (Ln m.uses) a9) (.slice a5 (Ln m.decls) a4) (.slice a7 (Ln m.procs) c3) (.slice ay (Ln m.main) am)):=by
 obtain ⟨g,a3⟩:=h.r0;have a1:=h.hC
 have a8:eQ wr (C<·) (set5 wr w.heap.size (.string m.name) (.slice Y (Ln m.uses) a9) (.slice a5 (Ln m.decls) a4) (.slice a7 (Ln m.procs) c3) (.slice ay (Ln m.main) am)) (w.heap.size<=·):=
  (((eQ.refl wr (C<·)).set5 (b:=w.heap.size) (fun V _ F=>by omega) _ _ _ _ _)).trans ⟨eD _,fun V _ F=>⟨by omega,rfl⟩⟩
 exact ⟨h.ke.set5 (eD _) _ _ _ _ _,Or.inr ⟨m,c,_,W,rfl,⟨Y,a9,a5,a4,a7,c3,ay,am,rfl,U,G.moves a8,J.moves a8,S.moves a8,a6.moves a8⟩,h.rd.set5 a3 (eD _) _ _ _ _ _⟩⟩
theorem wN {ds:List D} (h:eU w (K<=·) a n ds) (a2:C<K):eU w (C<·) a n ds:=h.moves ⟨eD _,fun _ _ F=>⟨gl a2 F,rfl⟩⟩
theorem Gh (R I:Nat) (a:OA) (d l:List Tk) (w:World) (h:eG R a I d w l) :
 ew 159 #[eL R 0] w (gk R a I d w (kv l) (oi (w.heap.size<=·))):=by
 have z:Hid (eG R a I d w l):=h;have ad:=h.lt
 have bD:Ln l<=4096:=by
  obtain ⟨k,_,rfl,_⟩:=h.idx;have:=h.len
  rw [nM];omega
 have ai:=hid (Gd l);clear h;go_enter func159,ntmps159;go_wp2_with fail
 obtain ⟨w2,ae⟩:∃ w2,w2=(w.alloc jo).alloc jo:=⟨_,rfl⟩
 have bl:w2.heap.size=w.heap.size+1+1:=by rw [ae];simp
 have a9:Hid (gG R a I d w w2 (w.heap.size+1) 27 jo #[.string ⟨#[]⟩,eu,eu,eu,eu] w2 l):=
  ⟨by rw [ae];exact (z.alloc _).alloc _,by rw [ae];exact ((eI.refl R w).alloc _).alloc _,by rw [ae];exact fF (eT _ _),by rw [ae];have:=eT (w.alloc jo) jo;simpa using this,eQ.refl _ _,ad,by omega,by omega,l,z⟩
 rw [← ae];clear ae;generalize a1:w.heap.size+1=C at *;refine (jE R I _ a d l uy w2 bl.symm a9.rd (by decide)).mono ?_;rintro e eC ⟨f,⟨D,rfl⟩ | ⟨D,rfl,RD⟩⟩
 . exact ⟨rfl,a9.ke.trans f,Or.inl ⟨by rw [ai.out,if_neg (by simp [D])],rfl⟩⟩
 have m:=hid (a9.keeps f RD);have bE:=f.size;have bx:=fN (by decide) D;clear RD f a9;go_wp2_with fail;refine (kN R I a d l.tail eC m.rd).mono ?_;rintro e eA ⟨f,⟨U,rfl⟩ | ⟨x,i,v,U,rfl,⟨rfl,bu⟩,RD⟩⟩
 . exact ⟨rfl,m.ke.trans f,Or.inl ⟨by rw [ai.out,if_pos D,U],rfl⟩⟩
 have aB:Hid (kv l=if eF i pA then qn x i.tail else none):=by show _=_;rw [ai.out,if_pos D,U]
 have av:=hid (m.keeps f RD);have bp:=f.size;have b9:=jZ U;clear RD f m U D ai;have aM:=hid (av.put 0 (.string x))
 have bK:(eA.setCell (ep C 0) (.string x)).heap.size=eA.heap.size:=by simp only [gU]
 obtain ⟨a3,G,J,S,a6,ap⟩:=fi av.cb;have bH:C<eA.heap.size:=lt_of_heap av.cb;go_wp2_with fail;generalize eA.setCell (ep C 0) (.string x)=eJ at *;clear a3 G J S a6 ap av;refine (jE R I _ a d i pA eJ (by omega) aM.rd (by decide)).mono ?_;rintro e eZ ⟨f,⟨D,rfl⟩ | ⟨D,rfl,RD⟩⟩
 . exact ⟨rfl,aM.ke.trans f,Or.inl ⟨by rw [aB.out,if_neg (by simp [D])],rfl⟩⟩
 have ao:Hid (kv l=qn x i.tail):=by show _=_;rw [aB.out,if_pos D]
 have aU:Hid (gG R a I d w w2 C 27 jo #[.string x,eu,eu,eu,eu] eZ i.tail):=aM.keeps f RD;have bo:=f.size;have aS:=fN (by decide) D;clear RD f aM D aB;generalize bQ:i.tail=l6 at *
 have c2:Ln l6<Ln l:=by omega
 have aO:=hid aU.restart;have cc:C<eZ.heap.size:=lt_of_heap aU.cb;have c6:w2.heap.size<=eZ.heap.size:=aU.mv.1;clear aU bQ bx b9 aS;go_wp2_with fail
 go_loopw [] (fun wr=>∃ (g:Nat) (P:List ByteArray) (c:List Tk) (v:Value),Hid (hk lm (Ln l6+1) [] l6=hk lm g P c)/\Ln c+1<=g/\Ln P+Ln c<=Ln l/\gG R a I d w eZ C 27 jo #[.string x,v,eu,eu,eu] wr c/\Row eZ.heap.size 9 1 wr v (Ln P) (fj P)) (fun wr=>lf R (Ln d) wr)
 case atStart=>exact ⟨_,[],l6,_,rfl,eD _,by simp;omega,aO,Row.nil _ _ _ _⟩
 case round =>
  obtain ⟨g,P,c,v,aE,af,hacc,br,ba⟩:=hrel;have p:=hid br;have aG:=hid ba;have aJ:Hid (lf R (Ln d) wr=Ln c):=br.rd.left
  obtain ⟨g,rfl⟩:∃ aj,g=aj+1:=⟨g - 1,by omega⟩
  clear br ba aO;go_wp2_with fail
  cases Z:eF c lm with
  | true =>
    refine (jR R I a d c lm wr (by decide) p.rd Z).mono ?_;rintro e eW ⟨rfl,b3,ab⟩;have bx:=fN (by decide) Z;have b7:=ab.size;have K:=hid (p.keeps ab b3);have aN:=hid (aG.keeps ab (by omega));obtain ⟨a3,hvw7,J,S,a6,ap⟩:=fi K.cb;have bF:C<eW.heap.size:=lt_of_heap K.cb
    have bI:Hid (∀ {V:Nat} {M:World},V<M.heap.size->False->eW.heap.size<=M.heap.size->ld eZ.heap.size v V):=fun _ h _=>h.elim
    have aX:eZ.heap.size<=wr.heap.size:=p.mv.1;clear ab b3 p aG;go_wp2_with fail
    cases Q:hS c.tail with
    | none=>
      have aH:Hid (∀ r,eG R a I d r c.tail->ew 196 #[eL R 0] r fun e T=>e = .panicked gL/\eI R r T):=fun r q=>by
       refine (kN R I a d _ r q).mono ?_;rintro e T ⟨N,⟨_,rfl⟩ | ⟨_,_,_,h,_⟩⟩
       . exact ⟨rfl,N⟩
       . rw [Q] at h;cases h
      have A:Hid (kv l=none):=by show _=_;rw [ao.out];unfold qn;rw [aE.out];unfold hk;rw [if_pos Z,Q]
      clear Q;go_wp2_with fail;refine wp_region_any (by kernel_rfl) ?_
      change wpAny _ _ _ _ _ _ _ (World.drew _)
      refine wpAny_take (i:=2) (v:=eL R 0) rfl (by kernel_rfl) (by kernel_rfl) (by kernel_rfl) (fun c a w h=>h) (Or.inl ⟨by rfl,fun w=>by go_simp⟩) ?_;refine wpAny_take (i:=0) (v:=eL C 1) rfl (by kernel_rfl) (by kernel_rfl) (by kernel_rfl) (fun c a w h=>h) (Or.inl ⟨by rfl,fun w=>by go_simp⟩) ?_;refine wpAny_ready (rs:=[1,3]) (by kernel_rfl) (by simp) ?_;refine hO rfl (fun j aA=>?_) (hO rfl (fun j aA=>?_) jz)
      . go_simp
        refine aA _ _ ?_;clear aA j;refine wpAny_ready (rs:=[3]) (by kernel_rfl) (by simp) ?_;refine hO rfl (fun j aA=>?_) jz;refine lg (by rfl) 196 _ _ (by rfl) mp _ (by rfl) gL (aH _ K.rd.drew) ?_;intro aY hk8;exact ⟨rfl,K.ke.drew.trans hk8,Or.inl ⟨A,rfl⟩⟩
      . refine lg (by rfl) 196 _ _ (by rfl) mp _ (by rfl) gL (aH _ K.rd.drew) ?_
        intro aY hk8;exact ⟨rfl,K.ke.drew.trans hk8,Or.inl ⟨A,rfl⟩⟩
    | some O=>
      obtain ⟨o,ly⟩:=O
      have aH:Hid (∀ r,eG R a I d r c.tail->ew 196 #[eL R 0] r fun e T=>∃ u,e = .returned u/\(eI R r T/\(u = .string o/\o.size<=maxLen)/\eG R a I d T ly)):=fun r q=>by
       refine (kN R I a d _ r q).mono ?_;rintro e T ⟨N,⟨h,_⟩ | ⟨b8,c,u,h,rfl,W,ez⟩⟩
       . rw [Q] at h;cases h
       . rw [Q] at h
         obtain ⟨rfl,rfl⟩:=fD (fe h);exact ⟨u,rfl,N,W,ez⟩
      have ar:Hid (hk lm (Ln l6+1) [] l6=if eF ly hM then hk lm g (P++[o]) ly.tail else none):=by show _=_;rw [aE.out];unfold hk;rw [if_pos Z,Q];cases g<;>rfl
      have b4:=jZ Q;clear Q;go_wp2_with fail
      go_region_law (first
       | (refine og (by rfl) 196 _ _ (by rfl) mp _ (by rfl) (aH _ K.rd.drew) ?_
          rintro u8 aY ⟨s,⟨rfl,hy8⟩,a4⟩;have aK:eW.heap.size<=aY.heap.size:=s.size;have Y:=hid (K.drew.keeps s a4);have b5:aY.cell? (ep C 1)=some v:=(s.cell (show C<eW.heap.size from bF) (by omega)).trans hvw7
          have b2:C<aY.heap.size:=by omega
          have ah:Hid (Row eZ.heap.size 9 1 aY v (Ln P) (fj P)):=(aN.keeps (eI.refl R eW).drew (by omega)).keeps s (by omega))
       | (refine qk (by rfl) _ _ 22 (by rfl) eZ.heap.size 9 _ 1 16 Tryz.underlying22 Tryz.infoP9 rfl (by decide) aY _ (Ln P) (fj P) [.str o] (by rfl) ah #[.string o] _ rfl (by rfl) rfl (fun _=>False) (.cons (mx hy8) .nil) (fun V F aT=>?_) (by omega) (by decide) (by omega) ?_
          focus (exact bI F aT aK)
          intro E L bd az bv co;obtain ⟨ag,ak,au,aI,bq,c9⟩:=fi (Y.belowB bv (by omega)).cb
          have bi:C<bd.heap.size:=by omega
          have a5:=hid ((Y.belowB bv (by omega)).put 1 (.slice (some (ep E 0)) (Ln P+1) L))
          have aF:=hid (az.set (p:=(ep C 1)) (by show C<eZ.heap.size;omega) (.slice (some (ep E 0)) (Ln P+1) L))))
      all_goals
       clear aH;go_wp2_with fail
       have bt:(bd.setCell (ep C 1) (.slice (some (ep E 0)) (Ln P+1) L)).heap.size=bd.heap.size:=by simp only [gU]
       generalize bd.setCell (ep C 1) (.slice (some (ep E 0)) (Ln P+1) L)=aw at *;refine (jE R I _ a d ly hM aw (by omega) a5.rd (by decide)).mono ?_;rintro e aZ ⟨n,⟨b,rfl⟩ | ⟨b,rfl,ZR⟩⟩
       . exact ⟨rfl,a5.ke.trans n,Or.inl ⟨by rw [ao.out];unfold qn;rw [ar.out,if_neg (by simp [b])],rfl⟩⟩
       have bb:=hid (a5.keeps n ZR);have bB:=hid (aF.keeps n (by omega));have bZ:=fN (by decide) b
       have bz:Hid (hk lm (Ln l6+1) [] l6=hk lm g (P++[o]) ly.tail):=by show _=_;rw [ar.out,if_pos b]
       clear n ZR b ar a5 aF;go_wp2_with fail;go_roundw
       case rel=>exact ⟨g,P++[o],ly.tail,_,bz,by simp;omega,by simp;omega,bb,by rw [gn];rw [show fj (P++[o])=fj P++[.str o] from by simp [fj]];exact bB⟩
       case measure=>rw [bb.out.rd.left,aJ.out];simp;omega
  | false =>
    refine (jS R I a d c lm wr p.rd Z).mono ?_;rintro e eW ⟨rfl,b3,ab⟩;have K:=hid (p.keeps ab b3);have aN:=hid (aG.keeps ab (by omega))
    have aq:Hid (kv l=sr x P c):=by show _=_;rw [ao.out];unfold qn;rw [aE.out];unfold hk;rw [if_neg (by simp [Z])]
    obtain ⟨ac,c7,rfl,hls⟩:=aN.slice;have bU:Hid (eU eW (C<·) ac (Ln P) (fj P)):=wN hls (by omega);have aX:eZ.heap.size<=wr.heap.size:=p.mv.1;have b7:=ab.size;have aO:=hid K.restart;have ce:C<eW.heap.size:=lt_of_heap K.cb
    have bX:Ln c<=Ln l:=by omega
    clear ab b3 p aG Z hls aE ao K aN aJ hacc af g;generalize aP:P=B at *;generalize bP:c=l7 at *;clear aP bP;go_wp2_with fail
    go_loopw [] (fun wr=>∃ (g:Nat) (P:List ge) (c:List Tk) (v:Value),Hid (lG (Ln l7+1) [] l7=lG g P c)/\Ln c+1<=g/\Ln P+Ln c<=Ln l/\gG R a I d w eW C 27 jo #[.string x,.slice ac (Ln B) c7,v,eu,eu] wr c/\Row eW.heap.size 170 4 wr v (Ln P) (iD P)) (fun wr=>lf R (Ln d) wr)
    case atStart=>exact ⟨_,[],l7,_,rfl,eD _,by simp;omega,aO,Row.nil _ _ _ _⟩
    case round =>
     obtain ⟨g,P,c,v,aE,af,hacc,br,ba⟩:=hrel;have p:=hid br;have aG:=hid ba;have aJ:Hid (lf R (Ln d) wr=Ln c):=br.rd.left
     obtain ⟨g,rfl⟩:∃ aj,g=aj+1:=⟨g - 1,by omega⟩
     clear br ba aO;go_wp2_with fail;refine (Gb R I a d c wr p.rd).mono ?_
     cases Z:q3 c with
     | true =>
       rintro e t ⟨rfl,hb13⟩;have c0:=hb13.size;have a2:=hid (p.later hb13);have bm:=hid (aG.later hb13);obtain ⟨a3,G,hvw13,S,a6,ap⟩:=fi a2.cb;have bT:C<t.heap.size:=lt_of_heap a2.cb
       have bR:Hid (∀ {V:Nat} {M:World},V<M.heap.size->False->t.heap.size<=M.heap.size->ld eW.heap.size v V):=fun _ h _=>h.elim
       have aX:eW.heap.size<=wr.heap.size:=p.mv.1;clear hb13 p aG;go_wp2_with fail
       cases Q:gM c with
       | none=>
         have aH:Hid (∀ r,eG R a I d r c->ew 199 #[eL R 0] r fun e T=>e = .panicked gL/\eI R r T):=fun r q=>by
          refine (Aw R I a d _ r q).mono ?_;rintro e T ⟨N,⟨_,rfl⟩ | ⟨_,_,_,h,_⟩⟩
          . exact ⟨rfl,N⟩
          . rw [Q] at h;cases h
         have A:Hid (kv l=none):=by show _=_;rw [aq.out];unfold sr;rw [aE.out];unfold lG;rw [if_pos Z,Q]
         clear Q;go_wp2_with fail;refine wp_region_any (by kernel_rfl) ?_
         change wpAny _ _ _ _ _ _ _ (World.drew _)
         refine wpAny_take (i:=2) (v:=eL R 0) rfl (by kernel_rfl) (by kernel_rfl) (by kernel_rfl) (fun c a w h=>h) (Or.inl ⟨by rfl,fun w=>by go_simp⟩) ?_;refine wpAny_take (i:=0) (v:=eL C 2) rfl (by kernel_rfl) (by kernel_rfl) (by kernel_rfl) (fun c a w h=>h) (Or.inl ⟨by rfl,fun w=>by go_simp⟩) ?_;refine wpAny_ready (rs:=[1,3]) (by kernel_rfl) (by simp) ?_;refine hO rfl (fun j aA=>?_) (hO rfl (fun j aA=>?_) jz)
         . go_simp
           refine aA _ _ ?_;clear aA j;refine wpAny_ready (rs:=[3]) (by kernel_rfl) (by simp) ?_;refine hO rfl (fun j aA=>?_) jz;refine lg (by rfl) 199 _ _ (by rfl) wL _ (by rfl) gL (aH _ a2.rd.drew) ?_;intro aY hk8;exact ⟨rfl,a2.ke.drew.trans hk8,Or.inl ⟨A,rfl⟩⟩
         . refine lg (by rfl) 199 _ _ (by rfl) wL _ (by rfl) gL (aH _ a2.rd.drew) ?_
           intro aY hk8;exact ⟨rfl,a2.ke.drew.trans hk8,Or.inl ⟨A,rfl⟩⟩
       | some O=>
         obtain ⟨o,ly⟩:=O
         have aH:Hid (∀ r,eG R a I d r c->ew 199 #[eL R 0] r fun e T=>∃ u,e = .returned u/\(eI R r T/\so o T u/\eG R a I d T ly)):=fun r q=>by
          refine (Aw R I a d _ r q).mono ?_;rintro e T ⟨N,⟨h,_⟩ | ⟨b8,c,u,h,rfl,W,ez⟩⟩
          . rw [Q] at h;cases h
          . rw [Q] at h
            obtain ⟨rfl,rfl⟩:=fD (fe h);exact ⟨u,rfl,N,W,ez⟩
         have ar:Hid (lG (Ln l7+1) [] l7=lG g (P++[o]) ly):=by show _=_;rw [aE.out];unfold lG;rw [if_pos Z,Q];cases g<;>rfl
         have b4:=As Q;clear Q;go_wp2_with fail
         go_region_law (first
          | (refine og (by rfl) 199 _ _ (by rfl) wL _ (by rfl) (aH _ a2.rd.drew) ?_
             rintro u8 aY ⟨s,⟨rfl,hy8⟩,a4⟩;have aK:t.heap.size<=aY.heap.size:=s.size;have Y:=hid (a2.drew.keeps s a4);have b5:aY.cell? (ep C 2)=some v:=(s.cell (show C<t.heap.size from bT) (by omega)).trans hvw13
             have b2:C<aY.heap.size:=by omega
             have ah:Hid (Row eW.heap.size 170 4 aY v (Ln P) (iD P)):=(bm.keeps (eI.refl R t).drew (by omega)).keeps s (by omega))
          | (refine qk (by rfl) _ _ 23 (by rfl) eW.heap.size 170 _ 4 40 Tryz.underlying23 Tryz.infoP56 rfl (by decide) aY _ (Ln P) (iD P) o.ds (by rfl) ah #[.int .i64 o.kind,.string o.name,.bool o.pub,.int .i64 o.n] _ rfl (by rfl) rfl (fun _=>False) (Ge hy8) (fun V F aT=>?_) (by omega) (by decide) (by omega) ?_
             focus (exact bR F aT aK)
             intro E L bd az bv co;obtain ⟨ag,ak,au,aI,bq,c9⟩:=fi (Y.belowB bv (by omega)).cb
             have bi:C<bd.heap.size:=by omega
             have a5:=hid ((Y.belowB bv (by omega)).put 2 (.slice (some (ep E 0)) (Ln P+1) L))
             have aF:=hid (az.set (p:=(ep C 2)) (by show C<eW.heap.size;omega) (.slice (some (ep E 0)) (Ln P+1) L))))
         all_goals
          clear aH;go_wp2_with fail;go_roundw
          case rel=>exact ⟨g,P++[o],ly,_,ar,by omega,by simp;omega,a5,by rw [gn];rw [show iD (P++[o])=iD P++o.ds from by simp [iD]];exact aF⟩
          case measure=>rw [a5.out.rd.left,aJ.out];omega
     | false =>
       rintro e t ⟨rfl,hb13⟩;have a2:=hid (p.later hb13);have bm:=hid (aG.later hb13)
       have bJ:Hid (kv l=sq x B P c):=by show _=_;rw [aq.out];unfold sr;rw [aE.out];unfold lG;rw [if_neg (by simp [Z])]
       obtain ⟨bc,c13,rfl,hls⟩:=bm.slice;have aX:eW.heap.size<=wr.heap.size:=p.mv.1;have c0:=hb13.size;have dg:Hid (eU t (C<·) bc (Ln P) (iD P)):=wN hls (by omega);have bO:Hid (eU t (C<·) ac (Ln B) (fj B)):=a2.at' bU;have aO:=hid a2.restart;have cd:C<t.heap.size:=lt_of_heap a2.cb
       have bX:Ln c<=Ln l:=by omega
       clear hb13 p aG Z hls aE aq a2 bm aJ hacc af g bU;generalize bg:P=y at *;generalize bW:c=l13 at *;clear bg bW;go_wp2_with fail
       go_loopw [] (fun wr=>∃ (g:Nat) (P:List fH) (c:List Tk) (v:Value),Hid (lH (Ln l13+1) [] l13=lH g P c)/\Ln c+1<=g/\Ln P+Ln c<=Ln l/\gG R a I d w t C 27 jo #[.string x,.slice ac (Ln B) c7,.slice bc (Ln y) c13,v,eu] wr c/\Row t.heap.size 118 5 wr v (Ln P) (hK P)) (fun wr=>lf R (Ln d) wr)
       case atStart=>exact ⟨_,[],l13,_,rfl,eD _,by simp;omega,aO,Row.nil _ _ _ _⟩
       case round=>
        obtain ⟨g,P,c,v,aE,af,hacc,br,ba⟩:=hrel;have p:=hid br;have aG:=hid ba;have aJ:Hid (lf R (Ln d) wr=Ln c):=br.rd.left
        obtain ⟨g,rfl⟩:∃ aj,g=aj+1:=⟨g - 1,by omega⟩
        clear br ba aO;go_wp2_with fail
        cases Z:eF c qy with
        | false =>
          refine (jS R I a d c qy wr p.rd Z).mono ?_;rintro e X ⟨rfl,b3,ab⟩;have c4:=ab.size;have H:=hid (p.keeps ab b3);have bh:=hid (aG.keeps ab (by omega));obtain ⟨a3,G,J,hvw23,a6,ap⟩:=fi H.cb;have bY:C<X.heap.size:=lt_of_heap H.cb;have aX:t.heap.size<=wr.heap.size:=p.mv.1
          have bV:Hid (∀ {V:Nat} {M:World},V<M.heap.size->X.heap.size<=V->X.heap.size<=M.heap.size->ld t.heap.size v V):=fun {V} _ _ h _=>⟨by omega,fun e=>by have:=(bh.lt V e).2;omega⟩
          clear ab b3 p aG;go_wp2_with fail
          cases Q:jn c with
          | none=>
            have aH:Hid (∀ r,eG R a I d r c->ew 200 #[eL R 0] r fun e T=>e = .panicked gL/\eI R r T):=fun r q=>by
             refine (Ax R I a d _ r q).mono ?_;rintro e T ⟨N,⟨_,rfl⟩ | ⟨_,_,_,h,_⟩⟩
             . exact ⟨rfl,N⟩
             . rw [Q] at h;cases h
            have A:Hid (kv l=none):=by show _=_;rw [bJ.out];unfold sq;rw [aE.out];unfold lH;rw [if_neg (by simp [Z]),Q]
            clear Q;go_wp2_with fail;refine wp_region_any (by kernel_rfl) ?_
            change wpAny _ _ _ _ _ _ _ (World.drew _)
            refine wpAny_take (i:=2) (v:=eL R 0) rfl (by kernel_rfl) (by kernel_rfl) (by kernel_rfl) (fun c a w h=>h) (Or.inl ⟨by rfl,fun w=>by go_simp⟩) ?_;refine wpAny_take (i:=0) (v:=eL C 3) rfl (by kernel_rfl) (by kernel_rfl) (by kernel_rfl) (fun c a w h=>h) (Or.inl ⟨by rfl,fun w=>by go_simp⟩) ?_;refine wpAny_ready (rs:=[1,3]) (by kernel_rfl) (by simp) ?_;refine hO rfl (fun j aA=>?_) (hO rfl (fun j aA=>?_) jz)
            . go_simp
              refine aA _ _ ?_;clear aA j;refine wpAny_ready (rs:=[3]) (by kernel_rfl) (by simp) ?_;refine hO rfl (fun j aA=>?_) jz;refine lg (by rfl) 200 _ _ (by rfl) wM _ (by rfl) gL (aH _ H.rd.drew) ?_;intro aY hk8;exact ⟨rfl,H.ke.drew.trans hk8,Or.inl ⟨A,rfl⟩⟩
            . refine lg (by rfl) 200 _ _ (by rfl) wM _ (by rfl) gL (aH _ H.rd.drew) ?_
              intro aY hk8;exact ⟨rfl,H.ke.drew.trans hk8,Or.inl ⟨A,rfl⟩⟩
          | some O=>
            obtain ⟨o,ly⟩:=O
            have aH:Hid (∀ r,eG R a I d r c->ew 200 #[eL R 0] r fun e T=>∃ u,e = .returned u/\(eI R r T/\wK (r.heap.size<=·) o T u/\eG R a I d T ly)):=fun r q=>by
             refine (Ax R I a d _ r q).mono ?_;rintro e T ⟨N,⟨h,_⟩ | ⟨b8,c,u,h,rfl,W,ez⟩⟩
             . rw [Q] at h;cases h
             . rw [Q] at h
               obtain ⟨rfl,rfl⟩:=fD (fe h);exact ⟨u,rfl,N,W,ez⟩
            have ar:Hid (lH (Ln l13+1) [] l13=lH g (P++[o]) ly):=by show _=_;rw [aE.out];unfold lH;rw [if_neg (by simp [Z]),Q];cases g<;>rfl
            have b4:=Av Q;clear Q;go_wp2_with fail
            go_region_law (first
             | (refine og (by rfl) 200 _ _ (by rfl) wM _ (by rfl) (aH _ H.rd.drew) ?_
                rintro u8 aY ⟨s,⟨be,an,fE,aD,gq,aR,rfl,hy0,al,a7,aL⟩,a4⟩;have aK:X.heap.size<=aY.heap.size:=s.size;have Y:=hid (H.drew.keeps s a4);have b5:aY.cell? (ep C 3)=some v:=(s.cell (show C<X.heap.size from bY) (by omega)).trans hvw23
                have b2:C<aY.heap.size:=by omega
                have ah:Hid (Row t.heap.size 118 5 aY v (Ln P) (hK P)):=(bh.keeps (eI.refl R X).drew (by omega)).keeps s (by omega))
             | (refine qk (by rfl) _ _ 24 (by rfl) t.heap.size 118 _ 5 96 Tryz.underlying24 Tryz.infoP60 rfl (by decide) aY _ (Ln P) (hK P) o.ds (by rfl) ah #[.string o.name,.bool o.pub,.slice be (Ln o.params) an,.slice fE (Ln o.locals) aD,.slice gq (Ln o.body) aR] _ rfl (by rfl) rfl (X.heap.size<=·) (Gf hy0 al a7 aL) (fun V F aT=>?_) (by omega) (by decide) (by omega) ?_
                focus (exact bV F aT aK)
                intro E L bd az bv co;obtain ⟨ag,ak,au,aI,bq,c9⟩:=fi (Y.belowB bv (by omega)).cb
                have bi:C<bd.heap.size:=by omega
                have a5:=hid ((Y.belowB bv (by omega)).put 3 (.slice (some (ep E 0)) (Ln P+1) L))
                have aF:=hid (az.set (p:=(ep C 3)) (by show C<t.heap.size;omega) (.slice (some (ep E 0)) (Ln P+1) L))))
            all_goals
             clear aH;go_wp2_with fail;go_roundw
             case rel=>exact ⟨g,P++[o],ly,_,ar,by omega,by simp;omega,a5,by rw [gn];rw [show hK (P++[o])=hK P++o.ds from by simp [hK]];exact aF⟩
             case measure=>rw [a5.out.rd.left,aJ.out];omega
        | true=>
          refine (jR R I a d c qy wr (by decide) p.rd Z).mono ?_;rintro e X ⟨rfl,b3,ab⟩;have H:=hid (p.keeps ab b3);have bh:=hid (aG.keeps ab (by omega))
          have bG:Hid (kv l=(match pB c.tail with
           | none=>none
           | some (V,a0)=>if eF a0 lQ then some (⟨x,B,y,P,V⟩,a0.tail) else none)):=by show _=_;rw [bJ.out];unfold sq;rw [aE.out];unfold lH;rw [if_pos Z]
          obtain ⟨bC,c23,rfl,hls⟩:=bh.slice;have aX:t.heap.size<=wr.heap.size:=p.mv.1;have c4:=ab.size;have bk:Hid (eU X (C<·) bC (Ln P) (hK P)):=wN hls (by omega);have bU:Hid (eU X (C<·) ac (Ln B) (fj B)):=H.at' bO;have bN:Hid (eU X (C<·) bc (Ln y) (iD y)):=H.at' dg;have aO:=hid H.restart;have c5:C<X.heap.size:=lt_of_heap H.cb;clear ab b3 p aG Z hls aE bJ H bh aJ bO dg;go_wp2_with fail;refine (Ar R I a d c.tail X aO.rd).mono ?_;rintro e b1 ⟨f,⟨U,rfl⟩ | ⟨V,i,v,U,rfl,⟨ay,am,rfl,aW⟩,RD⟩⟩
          . exact ⟨rfl,aO.ke.trans f,Or.inl ⟨by rw [bG.out,U],rfl⟩⟩
          have bw:Hid (kv l=if eF i lQ then some (⟨x,B,y,P,V⟩,i.tail) else none):=by show _=_;rw [bG.out,U]
          have bL:=hid (aO.keeps f RD);have ca:=f.size;have bj:Hid (gG R a I d w X C 27 jo #[.string x,.slice ac (Ln B) c7,.slice bc (Ln y) c13,.slice bC (Ln P) c23,.slice ay (Ln V) am] (b1.setCell (ep C 4) (.slice ay (Ln V) am)) i):=bL.put 4 (.slice ay (Ln V) am);have aa:Hid (eU (b1.setCell (ep C 4) (.slice ay (Ln V) am)) (C<·) ay (Ln V) (fw V)):=aW.moves (((eQ.refl b1 _).set (fun k _ N=>by show k≠C;omega) _).trans ⟨eD _,fun k _ N=>⟨by omega,rfl⟩⟩);obtain ⟨a3,G,J,S,a6,ap⟩:=fi bL.cb
          have cb:C<b1.heap.size:=by omega
          have c8:(b1.setCell (ep C 4) (.slice ay (Ln V) am)).heap.size=b1.heap.size:=by simp only [gU]
          clear f RD U bL aO aW bG;go_wp2_with fail;generalize b1.setCell (ep C 4) (.slice ay (Ln V) am)=w25 at *;clear a3 G J S a6 ap;refine (jE R I _ a d i lQ w25 (by omega) bj.rd (by decide)).mono ?_;rintro e c1 ⟨f,⟨D,rfl⟩ | ⟨D,rfl,RD⟩⟩
          . exact ⟨rfl,bj.ke.trans f,Or.inl ⟨by rw [bw.out,if_neg (by simp [D])],rfl⟩⟩
          have b6:Hid (kv l=some (⟨x,B,y,P,V⟩,i.tail)):=by show _=_;rw [bw.out,if_pos D]
          have b0:=hid (bj.keeps f RD);have a8:Hid (eQ w25 (C<·) c1 (C<·)):=(eQ.refl w25 _).keeps f (fun k _ N=>by omega);have bA:=hid (Gg (m:=⟨x,B,y,P,V⟩) b0 b6 bu (b0.at' bU) (b0.at' bN) (b0.at' bk) (aa.moves a8));obtain ⟨a3,G,J,S,a6,ap⟩:=fi b0.cb;obtain ⟨bM,ax,bf,aQ,bn,bs⟩:=fi b0.zb
          have aV:w.heap.size≠C:=by omega
          clear f RD b0 bj aa a8 bU bN bk bw b6 D;go_wp2_with fail;refine bodyPost_ret (v:=.agg #[.string x,.slice ac (Ln B) c7,.slice bc (Ln y) c13,.slice bC (Ln P) c23,.slice ay (Ln V) am]) (by simp [results,results159,go_sem,bM,ax,bf,aQ,bn]) rfl bA
end Go.Proofs.YtndkhgakfodldaaGreatDoor
