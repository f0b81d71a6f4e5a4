import Derived.Test.YtndkhgakfodldaaGreatDoorUr
import Derived.Test.YtndkhgakfodldaaGreatDoorPo
set_option maxRecDepth 100000
set_option maxHeartbeats 12800000
set_option linter.unusedSimpArgs false
set_option linter.unusedVariables false
open Go.Proofs.Tryz
namespace Go.Proofs.YtndkhgakfodldaaGreatDoor
open Go.RowKit Go.Maps Go.WideMaps
variable {A:Nat->Prop} {M c w G:World} {a H a4 am a5:OA} {b aR p cp ap V ad f y3:Nat} {s:ByteArray} {u:dN} {aw aF aM bl a8:Value}
def lQ:Fc:=⟨⟨#[99,110,116]⟩,[⟨1,3,0,⟨#[107]⟩⟩,⟨2,0,0,⟨#[115,117,109]⟩⟩,⟨3,4,1,⟨#[116]⟩⟩,⟨4,1,0,⟨#[100,111,119,110]⟩⟩]⟩
def Dj (r:Except Int dN):dN:=match r with | .ok u=>u | .error _=>⟨⟨#[]⟩,[],0,[],[]⟩
def qR:dN:=Dj (nQ oy [])
def qS:dN:=Dj (nQ nB [lQ])
theorem LT:nQ oy [] = .ok qR:=by kernel_rfl
theorem LU:nQ nB [lQ] = .ok qS:=by kernel_rfl
theorem ee.num {n:Nat} {ds:List D} (h:ee w A a n ds) (Z:n≠0):∃ b C,a=some (dj b C)/\b<w.heap.size/\A b/\∀ (j:Nat) (k:Int),ds[j]? = some (.int k)->w.cell? ⟨b,C+j,none⟩=some (di k):=by
 rcases h with h | ⟨b,C,s,a7,aO,I,W,S⟩
 . exact absurd h Z
 . refine ⟨b,C,a7,I,aO,fun j k a2=>?_⟩
   obtain ⟨v,af,hd⟩:=S.get j _ a2;rw [vg hd] at af;exact W j _ af
theorem LV (w:World) :
 dw 57 #[] w fun e G=>∃ H q,e = .returned (.agg #[.string ⟨#[99,110,116]⟩,.slice H 4 q])/\dx G dQ H 4 (gp lQ.items)/\dm w G:=by
 go_enter func57,ntmps57;go_wp2_with fail
 obtain ⟨M,ai⟩:∃ M,M=ja w [(#[.string ⟨#[99,110,116]⟩,.slice (some ⟨w.heap.size+1,0,none⟩) 4 4],30),(#[di 1,di 3,di 0,.string ⟨#[107]⟩,di 2,di 0,di 0,.string ⟨#[115,117,109]⟩,di 3,di 4,di 1,.string ⟨#[116]⟩,di 4,di 1,di 0,.string ⟨#[100,111,119,110]⟩],98)]:=⟨_,rfl⟩
 have aF:dm w M:=by rw [ai];exact uL _ _
 have an:dx M dQ (some ⟨w.heap.size+1,0,none⟩) 4 (gp lQ.items):=by
  rw [ai];refine j0 (jZ w _ 1 _ _ rfl) ?_ N9 N9;exact .cons (eY rfl) (.cons (eY rfl) (.cons (eY rfl) (.cons (fz N9) (.cons (eY rfl) (.cons (eY rfl) (.cons (eY rfl) (.cons (fz N9) (.cons (eY rfl) (.cons (eY rfl) (.cons (eY rfl) (.cons (fz N9) (.cons (eY rfl) (.cons (eY rfl) (.cons (eY rfl) (.cons (fz N9) .nil)))))))))))))))
 refine bodyPost_ret (v:=.agg #[.string ⟨#[99,110,116]⟩,.slice (some ⟨w.heap.size+1,0,none⟩) 4 4]) (by simp [results,results57,go_sem]) rfl ⟨some ⟨w.heap.size+1,0,none⟩,4,rfl,?_,?_⟩
 . rw [ai] at an;exact an
 . rw [ai] at aF;exact aF
structure Sg (w W:World) (b1 b3 b5:Nat) (a:OA) (cap:Nat) (s:ByteArray) (x1:OA) (n1 y1:Nat) (b2 o2 y2:Nat) (x3:OA) (n3 y3:Nat) (z1:OA) (d1:Nat) (z2:OA) (d2:Nat) (z3:OA) (d3:Nat) (z4:OA) (d4:Nat):Prop where
 below:dm w W
 h1:W.heap[b1]? = some (.cells #[.string ⟨#[99,110,116]⟩,.slice a 4 cap] 30 (0,0))
 its:Fx.zct W a lQ.items
 fit:Fx.AllFit lQ.items
 h3:W.heap[b3]? = some (.cells #[.string s,.slice x1 n1 y1,di 5,.slice (some (dj b2 o2)) 1 y2,.slice x3 n3 y3] 42 (0,0))
 l3:b2<W.heap.size
 c3:W.cell? ⟨b2,o2+1,none⟩=some (di 1)
 h5:W.heap[b5]? = some (.cells #[.string ⟨#[116,111,112]⟩,.slice z1 1 d1,.slice z2 0 d2,.slice z3 0 d3,.slice z4 3 d4] 27 (0,0))
 mo:gS W dQ nB (.agg #[.string ⟨#[116,111,112]⟩,.slice z1 1 d1,.slice z2 0 d2,.slice z3 0 d3,.slice z4 3 d4]) z1 d1 z2 d2 z3 d3 z4 d4
theorem Sg.later {bt:Nat} {q:Nat} {bv ab:Nat} {r:Nat} {be b9 bm bk:OA} {aT aU bh a3:Nat} (h:Sg w M bt aR p a q s a4 ap ad bv ab f a5 r y3 be aT b9 aU bm bh bk a3) (I:dm M c):Sg w c bt aR p a q s a4 ap ad bv ab f a5 r y3 be aT b9 aU bm bh bk a3:=
 ⟨h.below.trans (I.mono h.below.size),(I.block _ (lt_of_heap h.h1)).trans h.h1,h.its.later I,h.fit,(I.block _ (lt_of_heap h.h3)).trans h.h3,e4 h.l3 I.size,(I.cell (p:=⟨bv,ab+1,none⟩) h.l3).trans h.c3,(I.block _ (lt_of_heap h.h5)).trans h.h5,h.mo.later I⟩
structure Tg (W:World) (b7:Nat) (s:ByteArray) (x1:OA) (n1 y1:Nat) (d:Int) (x2:OA) (n2 y2 b3 o3 y3:Nat):Prop where
 h7:W.heap[b7]? = some (.cells #[.string s,.slice x1 n1 y1,di d,.slice x2 n2 y2,.slice (some (dj b3 o3)) 3 y3] 42 (0,0))
 l7:b3<W.heap.size
 n:W.cell? ⟨b3,o3+1,none⟩=some (di 4)
 m:W.cell? ⟨b3,o3+2,none⟩=some (di 1)
 at':W.cell? ⟨b3,o3+3,none⟩=some (di 1)
theorem Tg.later {y:Nat} {d:Int} {ai:Nat} (h:Tg M y s a4 ap ad d am ai f aR V y3) (I:dm M c):Tg c y s a4 ap ad d am ai f aR V y3:=
 ⟨(I.block _ (lt_of_heap h.h7)).trans h.h7,e4 h.l7 I.size,(I.cell (p:=⟨aR,V+1,none⟩) h.l7).trans h.n,(I.cell (p:=⟨aR,V+2,none⟩) h.l7).trans h.m,(I.cell (p:=⟨aR,V+3,none⟩) h.l7).trans h.at'⟩
theorem yB (an:dx w dQ H 4 (gp lQ.items)) (t:TypeId):dx (w.alloc (.cells #[.string ⟨#[99,110,116]⟩,.slice H 4 cp] t)) dQ (some (dj w.heap.size 0)) 1 (qN [lQ]):=by
 refine j0 (jZ w [(#[.string ⟨#[99,110,116]⟩,.slice H 4 cp],t)] 0 _ _ rfl) ?_ N9 N9;exact .cons (fz N9) (.cons (an.moves ⟨Ob,fun b I _=>⟨trivial,(dn _ _).block b I⟩⟩).val .nil)
theorem LW (an:dx w dQ H 4 (gp lQ.items)) (o:Obj) (t:TypeId):dx ((w.alloc o).alloc (.cells #[.string ⟨#[99,110,116]⟩,.slice H 4 cp] t)) dQ (some ⟨w.heap.size+1,0,none⟩) 1 (qN [lQ]):=by
 have:=yB (cp:=cp) (an.moves (G:=w.alloc o) ⟨Ob,fun b I _=>⟨trivial,(dn _ _).block b I⟩⟩) t;exact S2
theorem yC {t:TypeId} (h:M.heap[b]? = some (.cells #[aw,aF,aM,bl,a8] t (0,0))):M.cell? (dj b 0)=some aw/\M.cell? (dj b 1)=some aF/\M.cell? (dj b 2)=some aM/\M.cell? (dj b 3)=some bl/\M.cell? (dj b 4)=some a8:=
 have U:=ep h
 ⟨U.1,U.2.1,U.2.2.1,U.2.2.2.1,U.2.2.2.2.1⟩
theorem lj {x:Obj} (h:w.heap[b]? = some x) (I:dm w G):G.heap[b]? = some x:=(I.block _ (lt_of_heap h)).trans h
theorem LX (w:World) (o:Obj):(w.alloc o).drew.heap[w.heap.size]? = some o:=dX w o
theorem Dk (w:World) (o p:Obj):((w.alloc o).alloc p).heap[w.heap.size+1]? = some p:=P2
def mX (w:World) (A:Nat->Prop) (u:dN) (a4 am a5:OA):Prop:=dx w A a4 u.uses.length (eH u.uses)/\dx w A am u.parts.length (ih u.parts)/\dx w A a5 u.main.length (eJ u.main)
theorem mX.moves {A':Nat->Prop} (h:mX w A u a4 am a5) (m:dU w A G A'):mX G A' u a4 am a5:=⟨h.1.moves m,h.2.1.moves m,h.2.2.moves m⟩
theorem LY (Y:D.fines u.ds) (F:ee w A a4 u.uses.length (eH u.uses)) (J:ee w A am u.parts.length (ih u.parts)) (U:ee w A a5 u.main.length (eJ u.main)):mX w A u a4 am a5:=by
 simp only [dN.ds,D.fines,D.fine] at Y;obtain ⟨_,⟨E,a0,a6⟩,_,⟨bt,bv,aR⟩,⟨ah,ae,c3⟩,_⟩:=Y;exact ⟨F.toD E a0 a6,J.toD bt bv aR,U.toD ah ae c3⟩
structure qT (w:World) (b:Nat) (u:dN) (x1:OA) (xc1:Nat) (x2:OA) (xc2:Nat) (x3:OA) (xc3:Nat):Prop where
 blk:w.heap[b]? = some (.cells #[.string u.name,.slice x1 u.uses.length xc1,di u.data,.slice x2 u.parts.length xc2,.slice x3 u.main.length xc3] 42 (0,0))
 ls:mX w dQ u x1 x2 x3
theorem qT.later {g i l:Nat} (h:qT w b u a4 g am i a5 l) (I:dm w G):qT G b u a4 g am i a5 l:=
 ⟨lj h.blk I,h.ls.moves (dU.of_below I _)⟩
def Dl (u:dN) (w:World) (e:Ending) (G:World):Prop:=∃ a4 g am i a5 l,e = .returned (.tuple #[.agg #[.string u.name,.slice a4 u.uses.length g,di u.data,.slice am u.parts.length i,.slice a5 u.main.length l],di 0])/\mX G (w.heap.size<=·) u a4 am a5/\dm w G
theorem Dm {m:ec} {l:List Fc} (Q:nQ m l = .ok u) (Y:D.fines u.ds) {v:Value} {E a0 a6 c:OA} {ah ae c3 K:Nat} (a7:gS w dQ m v E ah a0 ae a6 c3 c K) {al:OA} (bt:Nat) (b7:dx w dQ al l.length (qN l)) :
 dw 21 #[v,.slice al l.length bt] w fun e G=>Dl u w e G:=
 (LS m v E ah a0 ae a6 c3 c K l al bt w a7 b7 (by rw [Q];simp)).mono fun e G ⟨h,I⟩=>by
   rw [Q] at h;obtain ⟨a4,ad,am,f,a5,y3,ar,F,J,U⟩:=h;exact ⟨a4,ad,am,f,a5,y3,ar,LY Y F J U,I⟩
theorem mX.new (g i l:Nat) (h:mX w A u a4 am a5) (t:TypeId) (ax:t=42):qT (w.alloc (.cells #[.string u.name,.slice a4 u.uses.length g,di u.data,.slice am u.parts.length i,.slice a5 u.main.length l] t)) w.heap.size u a4 g am i a5 l:=by
 subst ax;exact ⟨dX _ _,h.moves ⟨Ob,fun b I _=>⟨trivial,(dn _ _).block b I⟩⟩⟩
theorem mX.set {lo:Nat} (g i l:Nat) (h:mX w (lo<=·) u a4 am a5) (b2:w.heap[b]? = some (.cells #[aw,aF,aM,bl,a8] 42)) (I:b<lo):qT (set5 w b (.string u.name) (.slice a4 u.uses.length g) (di u.data) (.slice am u.parts.length i) (.slice a5 u.main.length l)) b u a4 g am i a5 l:=by
 refine ⟨heap_set (heap_set (heap_set (heap_set (heap_set b2 _) _) _) _) _,h.moves ⟨by simp [set5],fun k N X=>⟨trivial,?_⟩⟩⟩
 have Z:k≠b:=N7
 exact (eh Z _).trans ((eh Z _).trans ((eh Z _).trans ((eh Z _).trans (eh Z _))))
theorem Dn (g i l:Nat) (Y:D.fines u.ds) (Z:u.name.size<=maxLen) (h:mX w dQ u a4 am a5):eu w dQ u.ds [.string u.name,.slice a4 u.uses.length g,di u.data,.slice am u.parts.length i,.slice a5 u.main.length l]:=by
 simp only [dN.ds,D.fines,D.fine] at Y;unfold dN.ds;exact .cons (fz Z) (.cons h.1.val (.cons (eY Y.2.2.1) (.cons h.2.1.val (.cons h.2.2.val .nil))))
theorem LZ (u t:dN) (aL:nQ oy [] = .ok u) (ax:nQ nB [lQ] = .ok t) (C:D.fines u.ds) (z:D.fines t.ds) (V:u.name.size<=maxLen) (aX:t.name.size<=maxLen) (w:World) :
 dw 75 #[] w fun e G=>∃ a,e = .returned (.slice (some a) 2 2)/\dx G dQ (some a) 2 (gJ [u,t])/\dm w G:=by
 have bA:=hid (fun (M:World) (v:Value) (E:OA) (ah:Nat) (a0:OA) (ae:Nat) (a6:OA) (c3:Nat) (c:OA) (K:Nat) (a7:gS M dQ oy v E ah a0 ae a6 c3 c K)=>Dm aL C a7 (al:=none) 0 ⟨dA _,dY _,Or.inl rfl⟩)
 have aM:Hid (∀ (M:World) (v:Value) (E:OA) (ah:Nat) (a0:OA) (ae:Nat) (a6:OA) (c3:Nat) (c:OA) (K:Nat),gS M dQ nB v E ah a0 ae a6 c3 c K->∀ (T:OA) (bt:Nat),dx M dQ T 1 (qN [lQ])->dw 21 #[v,.slice T 1 bt] M fun e G=>Dl t M e G):=fun M v E ah a0 ae a6 c3 c K a7 T bt b7=>Dm ax z a7 (l:=[lQ]) bt b7
 have ac:=hid (And.intro C V);have aS:=hid (And.intro z aX);clear aL ax C z V aX;go_enter func75,ntmps75;go_wp2_with fail;refine (IW _).mono ?_;rintro e dk ⟨v,E,ah,a0,ae,a6,c3,c,K,rfl,a7,aq⟩;have L:=hid a7;have B:=hid aq;clear a7 aq;go_wp2_with fail;refine (bA.out _ _ _ _ _ _ _ _ _ _ L.out).mono ?_;rintro e w2 ⟨a4,g,am,i,a5,l,rfl,bj,aN⟩;have aV:=hid (bj.new g i l 42 rfl);have O:=hid (dp B.out (dp aN (dn w2 (fF u.name a4 u.uses.length g u.data am u.parts.length i a5 u.main.length l))));clear bj aN L B;go_wp2_with fail
 obtain ⟨aa,hW2⟩:∃ aa,aa=w2.alloc (fF u.name a4 u.uses.length g u.data am u.parts.length i a5 u.main.length l):=⟨_,rfl⟩
 rw [← hW2] at aV O ⊢;clear hW2;refine (IX _).mono ?_;rintro e dJ ⟨rfl,aB⟩
 have cj:dm aa dJ:=by rw [aB];exact Below.refl _ _
 clear aB;go_wp2_with fail;refine (I5 dJ).mono ?_;rintro e eD ⟨S,be,aT,b9,aU,bm,bh,bk,a3,rfl,a7,Z⟩;have ab:=dp cj Z;obtain rfl:S = .agg #[.string ⟨#[116,111,112]⟩,.slice be 1 aT,.slice b9 0 aU,.slice bm 0 bh,.slice bk 3 a3]:=a7.val;have L:=hid a7;have bW:=hid ab;clear a7 ab Z cj;go_wp2_with fail
 obtain ⟨b,hW6⟩:∃ b,b=eD.alloc (jl ⟨#[116,111,112]⟩ be 1 aT b9 0 aU bm 0 bh bk 3 a3):=⟨_,rfl⟩
 have bH:dm eD b:=by rw [hW6];exact dn _ _
 have aF:=dp bW.out bH;have I:=hid (dp O.out aF);have N:=hid (aV.out.later aF)
 have x:Hid (b.heap[eD.heap.size]? = some (.cells #[.string ⟨#[116,111,112]⟩,.slice be 1 aT,.slice b9 0 aU,.slice bm 0 bh,.slice bk 3 a3] 27 (0,0))/\gS b dQ nB (.agg #[.string ⟨#[116,111,112]⟩,.slice be 1 aT,.slice b9 0 aU,.slice bm 0 bh,.slice bk 3 a3]) be aT b9 aU bm bh bk a3):=⟨by rw [hW6];exact dX _ _,L.out.later bH⟩
 rw [← hW6];clear hW6 bH aF bW O L aV
 rename_i s aO
 have P:∀ {q:World} {y:Nat} {ad f y3:OA} {m o h:Nat} {Y aG W aD aj aZ ao ay aA aR aP av U ap ar aw a8 aE a2 al:Value},dm w q->qT q w2.heap.size u a4 g am i a5 l->qT q y t ad m f o y3 h->s { tmps:=#[dt,dF w2.heap.size 0,di 0,dF eD.heap.size 0,di 0,dF y 0,di 0,Y,aG,W,aD,aj,aZ,ao,ay,aA,aR,aP,av,U,ap,ar,aw,a8,aE,a2,al],defers:=[] } q:=by
  intro q y ad f y3 m o h Y aG W aD aj aZ ao ay aA aR aP av U ap ar aw a8 aE a2 al X F J;have p:=hid X;have d:=hid F;have j:=hid J;obtain ⟨aH,az,aK,aW,bg⟩:=yC F.blk;obtain ⟨bG,bp,bx,bQ,r4⟩:=yC J.blk;have b5:=lt_of_heap F.blk;have cu:=lt_of_heap J.blk;clear X F J I N x;refine aO _ _ ?_;clear aO;go_wp2_with fail;have Q:=dn q (.cells #[.string u.name,.slice a4 u.uses.length g,di u.data,.slice am u.parts.length i,.slice a5 u.main.length l,.string t.name,.slice ad t.uses.length m,di t.data,.slice f t.parts.length o,.slice y3 t.main.length h] 42);go_ret;refine ⟨(dj q.heap.size 0),rfl,?_,dp p.out Q⟩;refine j0 (dV.new q _ _) ?_ (by simp [gJ,dN.ds]) (by simp [gJ,dN.ds])
  have e:gJ [u,t]=u.ds++t.ds:=by simp [gJ]
  rw [e];have a9:=Dn g i l ac.out.1 ac.out.2 (d.out.ls.moves (dU.of_below Q _));have au:=Dn m o h aS.out.1 aS.out.2 (j.out.ls.moves (dU.of_below Q _));exact a9.append au
 clear aO;have c7:=hid (lj x.out.1 (fA b));have br:=lt_of_heap x.out.1;have aQ:=hid (fun (M:World) (ai:dm b M)=>yC (lj x.out.1 ai))
 go_region_held (fun M=>M.cell? (dj eD.heap.size 0)=some (.string ⟨#[116,111,112]⟩)/\M.cell? (dj eD.heap.size 1)=some (.slice be 1 aT)/\M.cell? (dj eD.heap.size 2)=some (.slice b9 0 aU)/\M.cell? (dj eD.heap.size 3)=some (.slice bm 0 bh)/\M.cell? (dj eD.heap.size 4)=some (.slice bk 3 a3))
  (first | with_reducible exact aQ.out _ af.out | with_reducible exact aQ.out _ (dp af.out (dn _ _)) | with_reducible exact aQ.out _ (je af.out N7 _ _ _ _ _) | with_reducible exact aQ.out _ ak.out | with_reducible exact aQ.out _ (dp ak.out (dn _ _)) | with_reducible exact aQ.out _ (dp ak.out (e6 _ _ _)) | with_reducible exact aQ.out _ (fA _) | with_reducible exact aQ.out _ (gK _ _) | with_reducible exact aQ.out _ (dp (fA _) (dn _ _)))
  (first
  | (go_at_call 57;refine (LV _).mono ?_;rintro e eP ⟨H,cp,rfl,an,a1⟩;have R:=hid an;(first | (with_reducible have ak:=hid (dp (fA b) a1)) | (have ag:=hid (lj (LX b _) a1);have ak:=hid (dp (gK b _) a1)));have cd:=ak.out.size;clear an a1)
  | (go_at_call 21;(with_reducible refine (aM.out _ _ _ _ _ _ _ _ _ _ (x.out.2.later (dp ak.out (dn _ _))) _ _ (yB R.out _)).mono ?_);rintro e bw ⟨ad,m,f,o,y3,h,rfl,bj,n⟩;have k:=hid bj;have af:=hid (dp ak.out (dp (dn _ _) n));(first | (with_reducible refine And.elim ?_ (vE (lj (lj ag.out (dn _ _)) n));intro bN r;have A:=hid (lj (lj ag.out (dn _ _)) n);obtain ⟨aJ,aI,bq,bo,ef,aY⟩:=r) | skip);clear bj n)
  | (go_at_call 21;(with_reducible refine (aM.out _ _ _ _ _ _ _ _ _ _ (x.out.2.later (dp ak.out (e6 _ _ _))) _ _ ((yB R.out _).later (dn _ _))).mono ?_);rintro e bw ⟨ad,m,f,o,y3,h,rfl,bj,n⟩;have k:=hid bj;have af:=hid (dp ak.out (dp (e6 _ _ _) n));(refine And.elim ?_ (vE (lj (Dk eP _ _) n));intro bN r;have A:=hid (lj (Dk eP _ _) n);obtain ⟨aJ,aI,bq,bo,ef,aY⟩:=r);clear bj n)
  | (go_at_call 21;(with_reducible refine (aM.out _ _ _ _ _ _ _ _ _ _ (x.out.2.later (dp ak.out (e6 _ _ _))) _ _ (LW R.out _ _)).mono ?_);rintro e bw ⟨ad,m,f,o,y3,h,rfl,bj,n⟩;have k:=hid bj;have af:=hid (dp ak.out (dp (e6 _ _ _) n));(refine And.elim ?_ (vE (lj (eR (dX eP _)) n));intro bN r;have A:=hid (lj (eR (dX eP _)) n);obtain ⟨aJ,aI,bq,bo,ef,aY⟩:=r);clear bj n))
 . show s _ _
   exact P (dp I.out (dp af.out (dn bw _))) (N.out.later (dp af.out (dn bw _))) (k.out.new m o h 42 rfl)
 . show s _ _
   exact P (dp I.out (je af.out (b:=eP.heap.size+1) N7 _ _ _ _ _)) (N.out.later (je af.out (b:=eP.heap.size+1) N7 _ _ _ _ _)) (k.out.set m o h A.out (by simp<;>omega))
 . show s _ _
   exact P (dp I.out (je af.out (b:=eP.heap.size) N7 _ _ _ _ _)) (N.out.later (je af.out (b:=eP.heap.size) N7 _ _ _ _ _)) (k.out.set m o h A.out (by simp<;>omega))
 . show s _ _
   exact P (dp I.out (je af.out (b:=b.heap.size) N7 _ _ _ _ _)) (N.out.later (je af.out (b:=b.heap.size) N7 _ _ _ _ _)) (k.out.set m o h A.out (by simp<;>omega))
theorem L0:D.fines qR.ds:=qv _ (by kernel_rfl)
theorem L1:D.fines qS.ds:=qv _ (by kernel_rfl)
theorem Do {n k:Nat} (h:n=k) (N:k<=maxLen):n<=maxLen:=h ▸ N
theorem L2 (w:World) :
 dw 75 #[] w fun e G=>∃ a,e = .returned (.slice (some a) 2 2)/\dx G dQ (some a) 2 (gJ [qR,qS])/\dm w G:=
 LZ qR qS LT LU L0 L1 (Do (k:=3) (by kernel_rfl) N9) (Do (k:=3) (by kernel_rfl) N9) w
def pS:dP:=eg qR
theorem L3:iy qR = .ok pS:=by kernel_rfl
theorem dx.ints {n:Nat} {ds:List D} (h:dx w A a n ds) (Z:0<n):∃ b C,a=some (dj b C)/\b<w.heap.size/\∀ (j:Nat) (k:Int),ds[j]? = some (.int k)->w.cell? ⟨b,C+j,none⟩=some (di k):=by
 obtain ⟨b,C,a7,I,W⟩:=h.cell Z;refine ⟨b,C,a7,I,fun j k a2=>?_⟩;obtain ⟨v,af,hd⟩:=W j _ a2;exact SR
structure yD (w:World) (b3 o3 b4 o4 b5 o5:Nat):Prop where
 l3:b3<w.heap.size
 c0:w.cell? ⟨b3,o3+12,none⟩=some (di 12)
 c1:w.cell? ⟨b3,o3+13,none⟩=some (di 15)
 c2:w.cell? ⟨b3,o3+14,none⟩=some (di 0)
 c3:w.cell? ⟨b3,o3+15,none⟩=some (di 16)
 l4:b4<w.heap.size
 f0:w.cell? (dj b4 o4)=some (di 4)
 f1:w.cell? ⟨b4,o4+1,none⟩=some (di 1)
 f2:w.cell? ⟨b4,o4+2,none⟩=some (di 0)
 f3:w.cell? ⟨b4,o4+3,none⟩=some (di 6)
 f4:w.cell? ⟨b4,o4+4,none⟩=some (di 3)
 f5:w.cell? ⟨b4,o4+5,none⟩=some (di 0)
 en:dx w dQ (some (dj b5 o5)) 1 (fs [0])
theorem yD.later {u au i:Nat} (h:yD w aR V u au p i) (I:dm w G):yD G aR V u au p i:=
 have bn:∀ j,G.cell? (dj aR j)=w.cell? (dj aR j):=fun j=>I.cell (p:=(dj aR j)) h.l3
 have aH:∀ j,G.cell? (dj u j)=w.cell? (dj u j):=fun j=>I.cell (p:=(dj u j)) h.l4
 ⟨e4 h.l3 I.size,(bn _).trans h.c0,(bn _).trans h.c1,(bn _).trans h.c2,(bn _).trans h.c3,e4 h.l4 I.size,(aH _).trans h.f0,(aH _).trans h.f1,(aH _).trans h.f2,(aH _).trans h.f3,(aH _).trans h.f4,(aH _).trans h.f5,h.en.later I⟩
theorem Tryz.infoI:(prog.info? 3).map (fun i=>(i.zero,i.size,i.bytes))=some (some (di 0),1,8):=by kernel_rfl
theorem Dp (a b:List Int):intV (a++b)=intV a++intV b:=by simp [intV]
theorem tv {B:Nat} {a:World} (h:Below B a w) (m:Nat):Below B a (w.drewN m):=⟨h.os,h.tape,h.output,h.size,h.block⟩
end Go.Proofs.YtndkhgakfodldaaGreatDoor

namespace Go.Proofs.YtndkhgakfodldaaGreatDoor
open Go.RowKit Go.Shelf
variable {B y i:Nat} {H:Cx} {e:Int} {s:Sw} {u av:Value} {w G:World}
structure Wk where
 au:OA
 cu:Nat
 an:OA
 cn:Nat
 ab:OA
 cb:Nat
 D:Nat
 cd:Nat
 S:Nat
def hO (l:List Nat):List Int:=l.map Int.ofNat
def pT (l:List (List Nat)):List D:=l.map fun r=>.list r.length (fs (hO r))
abbrev nR (H:Cx) (K:Wk) (bD:OA) (p:Nat) (av:Value) (s:Sw) (e:Int):Array Value:=#[.slice K.au H.us.length K.cu,.slice K.an H.near.length K.cn,.slice K.ab H.beg.length K.cb,.slice (some (dj K.D 0)) s.data.length K.cd,.slice bD s.inp.length p,av,di H.lim,di s.ticks,di s.calls,di e]
structure Ro (w:World) (B base:Nat) (cx:Cx) (K:Wk):Prop where
 us:dx w (·<base) K.au cx.us.length (gJ cx.us)
 near:dx w (fun b=>b<K.S/\b≠B/\b≠K.D) K.an cx.near.length (pT cx.near)
 beg:dx w (fun b=>b<K.S/\b≠B/\b≠K.D) K.ab cx.beg.length (fs cx.beg)
 lB:base<=B
 lD:base<=K.D
 BS:B<K.S
 DS:K.D<K.S
 BD:B≠K.D
 zS:K.S<=w.heap.size
theorem Ro.moves {K:Wk} (h:Ro w B y H K) (b2:w.heap.size<=G.heap.size) (N:∀ b,b<K.S->b≠B->b≠K.D->G.heap[b]? = w.heap[b]?):Ro G B y H K:=
 have F:=h.lB;have J:=h.lD;have U:=h.BS
 ⟨h.us.moves ⟨b2,fun b _ X=>⟨X,N b N7 N7 N7⟩⟩,h.near.moves ⟨b2,fun b _ X=>⟨X,N b X.1 X.2.1 X.2.2⟩⟩,h.beg.moves ⟨b2,fun b _ X=>⟨X,N b X.1 X.2.1 X.2.2⟩⟩,h.lB,h.lD,h.BS,h.DS,h.BD,fZ h.zS b2⟩
structure e7 (w:World) (B base:Nat) (cx:Cx) (K:Wk) (vo:Value) (s:Sw) (e:Int):Prop where
 blk:∃ ai ci,w.heap[B]? = some (.cells (nR cx K ai ci vo s e) 128 (0,0))/\dx w (·<base) ai s.inp.length (fs s.inp)/\s.inp.length<=ci
 data:w.heap[K.D]? = some (.cells (intV s.data).toArray 3 (0,0))
 out:w.ownsRow K.S 3 1 vo s.out.length (intV s.out)
 ro:Ro w B base cx K
 cd:K.cd=s.data.length
 dl:s.data.length<=512
 tl:s.ticks<=cx.lim
 tm:cx.lim<=1000000
 cl:s.calls<=24
 ol:s.out.length<=200
theorem e7.oB {K:Wk} (h:e7 w B y H K av s e):av.ownBlock≠some B:=fun x=>by have:=(h.out.lt B x).1;have:=h.ro.BS;omega
theorem e7.oD {K:Wk} (h:e7 w B y H K av s e):av.ownBlock≠some K.D:=fun x=>by have:=(h.out.lt K.D x).1;have:=h.ro.DS;omega
structure dR (B D:Nat) (vo vo':Value) (w w':World):Prop where
 os:w'.os=w.os
 tape:w'.tape=w.tape
 output:w'.output=w.output
 size:w.heap.size<=w'.heap.size
 block:∀ b,b<w.heap.size->b≠B->b≠D->vo.ownBlock≠some b->w'.heap[b]? = w.heap[b]?
 own:∀ k,vo'.ownBlock=some k->k<w.heap.size->vo.ownBlock=some k
theorem dR.refl (B D:Nat) (av:Value) (w:World):dR B D av av w w:=⟨rfl,rfl,rfl,dA _,fun _ _ _ _ _=>rfl,fun _ h _=>h⟩
theorem dR.trans {D:Nat} {aF aM bl:Value} {a b c:World} (h:dR B D aF aM a b) (k:dR B D aM bl b c):dR B D aF bl a c:=
 ⟨k.os.trans h.os,k.tape.trans h.tape,k.output.trans h.output,fZ h.size k.size,fun x S F J U=>(k.block x (e4 S h.size) F J (fun e=>U (h.own x e S))).trans (h.block x S F J U),fun x e S=>h.own x (k.own x e (e4 S h.size)) S⟩
theorem dR.grown {D:Nat} (h:w.grownBy G (some B)):dR B D av av w G:=⟨h.os,h.tape,h.output,h.size,fun b I F _ _=>h.block b I (fun e=>F (eX e)),fun _ h _=>h⟩
theorem dR.below {D:Nat} (h:dm w G):dR B D av av w G:=⟨h.os,h.tape,h.output,h.size,fun b I _ _ _=>h.block b I,fun _ h _=>h⟩
abbrev qU (c:Int):List PanicEntry:=[{ v:=.iface 3 (di c),recovered:=false }]
def Sr {α:Type} (rep:α->Value) (B y:Nat) (H:Cx) (K:Wk) (w:World) (av:Value) (r:Rr α) (e:Ending) (G:World):Prop:=
 ∃ q,dR B K.D av q w G/\((∃ a s,r = .ok a s/\e = .returned (rep a)/\e7 G B y H K q s 0)\/(∃ an s,r = .stop an s/\e = .panicked (qU an)/\e7 G B y H K q s an))
def fB (n:Int):Value:=di n
def tw (_:Unit):Value:=.tuple #[]
theorem jt {b:Nat} {af a4 am a5 ax aG u d a c:Value} {t:TypeId} (h:w.heap[b]? = some (.cells #[af,a4,am,a5,ax,aG,u,d,a,c] t (0,0))) :
 w.cell? (dj b 0)=some af/\w.cell? (dj b 1)=some a4/\w.cell? (dj b 2)=some am/\w.cell? (dj b 3)=some a5/\w.cell? (dj b 4)=some ax/\w.cell? (dj b 5)=some aG/\w.cell? (dj b 6)=some u/\w.cell? (dj b 7)=some d/\w.cell? (dj b 8)=some a/\w.cell? (dj b 9)=some c/\b<w.heap.size/\∀ j,w.frozen? (dj b j)=false:=by
 refine ⟨?_,?_,?_,?_,?_,?_,?_,?_,?_,?_,lt_of_heap h,fun j=>hD h j⟩<;>(rw [eZ h];rfl)
theorem sn:w.grownBy (w.setCell (dj B i) u) (some B):=⟨rfl,rfl,rfl,Ob,fun k _ aX=>eh (fun e=>aX (by rw [e])) u⟩
theorem e7.put {K:Wk} {s':Sw} {e':Int} (h:e7 w B y H K av s e) (a8:∀ bD p,(nR H K bD p av s e).setIfInBounds i u=nR H K bD p av s' e') (F:s'.data=s.data) (J:s'.inp=s.inp) (U:s'.out=s.out) (aa:s'.ticks<=H.lim) (aB:s'.calls<=24):e7 (w.setCell (dj B i) u) B y H K av s' e':=by
 obtain ⟨bD,p,I,V,W⟩:=h.blk;have bj:=h.ro.lB;refine ⟨⟨bD,p,?_,?_,by rw [J];exact W⟩,?_,?_,h.ro.moves Ob (fun b _ Z _=>eh (by show b≠B;exact Z) u),by rw [F];exact h.cd,by rw [F];exact h.dl,aa,h.tm,aB,by rw [U];exact h.ol⟩
 . rw [heap_set I u,a8]
 . rw [J]
   exact V.moves ⟨Ob,fun b _ ac=>⟨ac,eh (by show b≠B;omega) u⟩⟩
 . rw [F]
   exact (eh Py u).trans h.data
 . rw [U]
   exact iZ h.out (fun k N=>eh (fun e=>h.oB Pz) u)
theorem stop_any (B y:Nat) (H:Cx) (K:Wk) (av:Value) (s:Sw) (c:Int) (w:World) (h:e7 w B y H K av s 0) :
 dw 167 #[dF B 0,di c] w fun e G=>e = .panicked (qU c)/\w.grownBy G (some B)/\e7 G B y H K av s c:=by
 obtain ⟨bD,p,I,_,_⟩:=h.blk;obtain ⟨aH,az,aK,aW,bg,q5,q6,q7,q8,q9,b5,qf⟩:=jt I;have A:=hid (h.put (i:=9) (u:=di c) (s':=s) (e':=c) (fun _ _=>rfl) rfl rfl rfl h.tl h.cl);clear h I;go_enter func167,ntmps167;go_wp2_with fail;exact ⟨rfl,rfl,sn,A⟩
theorem e7.below {K:Wk} (h:e7 w B y H K av s e) (I:dm w G):e7 G B y H K av s e:=by
 obtain ⟨bD,p,aF,V,W⟩:=h.blk;have X:=lt_of_heap aF;exact ⟨⟨bD,p,(I.block _ X).trans aF,V.moves ⟨I.size,fun b S ac=>⟨ac,I.block b S⟩⟩,W⟩,(I.block _ (lt_of_heap h.data)).trans h.data,ownsRow_later h.out I,h.ro.moves I.size (fun b F _ _=>I.block b (e4 F h.ro.zS)),h.cd,h.dl,h.tl,h.tm,h.cl,h.ol⟩
theorem fQ (w:World) (m:Nat):dm w (w.drewN m):=tv (Below.refl _ _) m
theorem tick_any (B y:Nat) (H:Cx) (K:Wk) (av:Value) (s:Sw) (w:World) (h:e7 w B y H K av s 0) :
 dw 166 #[dF B 0] w fun e G=>Sr tw B y H K w av (iM H.lim s) e G:=by
 obtain ⟨bD,p,I,_,_⟩:=h.blk;obtain ⟨aH,az,aK,aW,bg,q5,q6,q7,q8,q9,b5,qf⟩:=jt I;have c:=h.tl;have b:=h.tm;have aS:=hid h;clear h I
 by_cases ax:s.ticks=H.lim
 . have z:Hid (iM H.lim s = .stop 3 s):=if_pos ax
   have aQ:=hid (fun M (ai:dm w M)=>stop_any B y H K av s 3 M (aS.below ai))
   have a:((s.ticks:Int) == (H.lim:Int))=true:=by rw [ax];simp
   go_enter func166,ntmps166;go_wp2_with fail
   go_quiet ((fail))
   go_wp2_with fail;refine (aQ _ (fQ w _)).mono ?_;rintro e dk ⟨rfl,ak,aj⟩;exact ⟨rfl,av,(dR.below (fQ w _)).trans (dR.grown ak),Or.inr ⟨3,s,z,rfl,aj⟩⟩
 . have z:Hid (iM H.lim s = .ok () { s with ticks:=s.ticks+1 }):=if_neg ax
   have a:((s.ticks:Int) == (H.lim:Int))=false:=by rw [beq_eq_false_iff_ne];omega
   have A:=hid (fun M (ai:dm w M)=>(aS.below ai).put (i:=7) (u:=di ((s.ticks:Int)+1)) (s':={ s with ticks:=s.ticks+1 }) (e':=0) (fun _ _=>rfl) rfl rfl rfl P8 aS.cl);go_enter func166,ntmps166;go_wp2_with fail
   go_quiet ((fail))
   go_wp2_with fail;go_end0;exact ⟨av,(dR.below (fQ w _)).trans (dR.grown sn),Or.inl ⟨(),_,z,rfl,A _ (fQ w _)⟩⟩
end Go.Proofs.YtndkhgakfodldaaGreatDoor

namespace Go.Proofs.YtndkhgakfodldaaGreatDoor
open Go.RowKit Go.Maps Go.WideMaps
variable {a a4 a5 ax aG:OA} {l:List dP} {o:dP} {w:World}
def vH (l:List dP):List D:=l.flatMap dP.ds
structure Dq (w:World) (b off:Nat) (o:dP) (x1:OA) (y1:Nat) (x3:OA) (y3:Nat) (x4:OA) (y4:Nat) (x5:OA) (y5:Nat):Prop where
 lt:b<w.heap.size
 c0:w.cell? (dj b off)=some (.string o.name)
 c1:w.cell? ⟨b,off+1,none⟩=some (.slice x1 o.uses.length y1)
 c2:w.cell? ⟨b,off+2,none⟩=some (di o.data)
 c3:w.cell? ⟨b,off+3,none⟩=some (.slice x3 o.code.length y3)
 c4:w.cell? ⟨b,off+4,none⟩=some (.slice x4 o.fixes.length y4)
 c5:w.cell? ⟨b,off+5,none⟩=some (.slice x5 o.entries.length y5)
 c6:w.cell? ⟨b,off+6,none⟩=some (di o.main)
 ov:i1 w o x1 x3 x4 x5
theorem dx.ob (h:dx w dQ a l.length (vH l)) (i:Nat) (V:i<l.length):∃ b C a4 ad a5 y3 ax b4 aG bx,a=some (dj b C)/\Dq w b (C+i*7) l[i] a4 ad a5 y3 ax b4 aG bx:=by
 obtain ⟨b,C,a7,I,W⟩:=h.cell N7;generalize S:l[i]=x;obtain ⟨s,e,data,f,fixes,entries,main⟩:=x
 have al:∀ j d,j<7->(dP.mk s e data f fixes entries main).ds[j]? = some d->∃ v,w.cell? ⟨b,C+i*7+j,none⟩=some v/\eO w dQ d v:=fun j d a2 hd=>by
  rw [ie];exact W (i*7+j) d ((mg dP.ds 7 (fun _=>rfl) l i V j a2).trans OQ)
 obtain ⟨aw,aH,bE⟩:=al 0 (.str s) N7 rfl;obtain ⟨aF,az,aT⟩:=al 1 (.list e.length (eH e)) N7 rfl;obtain ⟨aM,aK,aU⟩:=al 2 (.int data) N7 rfl;obtain ⟨bl,aW,bh⟩:=al 3 (.list f.length (lV f)) N7 rfl;obtain ⟨a8,bg,a3⟩:=al 4 (.list fixes.length (o8 fixes)) N7 rfl;obtain ⟨u,q5,bp⟩:=al 5 (.list entries.length (fs entries)) N7 rfl;obtain ⟨o,q6,bL⟩:=al 6 (.int main) N7 rfl;obtain ⟨rfl,w0⟩:=k9 bE;obtain ⟨a4,ad,rfl,F⟩:=ho aT;obtain ⟨rfl,w2⟩:=gR aU;obtain ⟨a5,y3,rfl,U⟩:=ho bh;obtain ⟨ax,b4,rfl,aa⟩:=ho a3;obtain ⟨aG,bx,rfl,aB⟩:=ho bp;obtain ⟨rfl,eD⟩:=gR bL;exact ⟨b,C,a4,ad,a5,y3,ax,b4,aG,bx,a7,I,aH,az,aK,aW,bg,q5,q6,w0,F,w2,U,aa,aB,eD⟩
def L4 (w:World) (a:OA) (n:Nat):Prop:=∀ b C,a=some (dj b C)->∀ i,i<n->∃ x k a3,w.cell? ⟨b,C+i*7+1,none⟩=some (.slice x k a3)/\k<=a3
def nS (w:World) (a:OA) (l:List dP):Prop:=dx w dQ a l.length (vH l)/\L4 w a l.length
theorem nS.later {G:World} (h:nS w a l) (I:dm w G):nS G a l:=by
 refine ⟨h.1.later I,fun b C a7 i V=>?_⟩;obtain ⟨x,k,a3,W,N⟩:=h.2 b C a7 i V;obtain ⟨aL,c0,_,_,_,_,_,_,_,_,o,b6⟩:=dx.ob (l:=l) h.1 i V;rw [a7] at o
 cases o
 exact ⟨x,k,a3,(I.cell (p:=⟨b,C+i*7+1,none⟩) b6.lt).trans W,N⟩
theorem nS.ob (h:nS w a l) (i:Nat) (V:i<l.length):∃ b C a4 ad a5 y3 ax b4 aG bx,a=some (dj b C)/\Dq w b (C+i*7) l[i] a4 ad a5 y3 ax b4 aG bx/\l[i].uses.length<=ad:=by
 obtain ⟨b,C,a4,ad,a5,y3,ax,b4,aG,bx,a7,b6⟩:=dx.ob h.1 i V;obtain ⟨x,k,a3,W,N⟩:=h.2 b C a7 i V;have F:=b6.c1;rw [W] at F;cases F;exact ⟨b,C,a4,ad,a5,y3,ax,b4,aG,bx,a7,b6,N⟩
theorem Dr (ad y3 y4 y5:Nat) (h:i1 w o a4 a5 ax aG):eu w dQ o.ds [.string o.name,.slice a4 o.uses.length ad,di o.data,.slice a5 o.code.length y3,.slice ax o.fixes.length y4,.slice aG o.entries.length y5,di o.main]:=by
 unfold dP.ds;exact .cons (fz h.wn) (.cons h.uses.val (.cons (eY h.wd) (.cons h.code.val (.cons h.fixes.val (.cons h.entries.val (.cons (eY h.wm) .nil))))))
theorem L5 {p:dP} {u1 u3 u4 u5:OA} (ad y3 y4 y5 aF bl a8 u:Nat) (h:i1 w o a4 a5 ax aG) (k:i1 w p u1 u3 u4 u5) (F:o.uses.length<=ad) (a9:p.uses.length<=aF) (t:TypeId) :
 nS (w.alloc (.cells #[.string o.name,.slice a4 o.uses.length ad,di o.data,.slice a5 o.code.length y3,.slice ax o.fixes.length y4,.slice aG o.entries.length y5,di o.main,.string p.name,.slice u1 p.uses.length aF,di p.data,.slice u3 p.code.length bl,.slice u4 p.fixes.length a8,.slice u5 p.entries.length u,di p.main] t)) (some (dj w.heap.size 0)) [o,p]:=by
 have I:=dV.new w #[.string o.name,.slice a4 o.uses.length ad,di o.data,.slice a5 o.code.length y3,.slice ax o.fixes.length y4,.slice aG o.entries.length y5,di o.main,.string p.name,.slice u1 p.uses.length aF,di p.data,.slice u3 p.code.length bl,.slice u4 p.fixes.length a8,.slice u5 p.entries.length u,di p.main] t
 have e:vH [o,p]=o.ds++p.ds:=by simp [vH]
 refine ⟨j0 I ?_ (by rw [e];simp [dP.ds]) (by rw [e];simp [dP.ds]),fun b C a7 i V=>?_⟩
 . rw [e]
   have m:dU w dQ (w.alloc (.cells #[.string o.name,.slice a4 o.uses.length ad,di o.data,.slice a5 o.code.length y3,.slice ax o.fixes.length y4,.slice aG o.entries.length y5,di o.main,.string p.name,.slice u1 p.uses.length aF,di p.data,.slice u3 p.code.length bl,.slice u4 p.fixes.length a8,.slice u5 p.entries.length u,di p.main] t)) dQ:=⟨Ob,fun b I _=>⟨trivial,(dn _ _).block b I⟩⟩
   exact (Dr ad y3 y4 y5 (h.later (dn _ _))).append (Dr aF bl a8 u (k.later (dn _ _)))
 . cases a7
   have d:i=0\/i=1:=by simp at V;omega
   rcases d with rfl | rfl
   . exact ⟨a4,_,ad,I.cell 1 _ rfl,F⟩
   . exact ⟨u1,_,aF,I.cell 8 _ rfl,a9⟩
def oX:dP:=eg qS
theorem L6:iy qS = .ok oX:=by kernel_rfl
theorem L7 (p q:dN) (o r:dP) (ap:iy p = .ok o) (Q:iy q = .ok r) (bC:∀ w:World,dw 75 #[] w fun e G=>∃ a,e = .returned (.slice (some a) 2 2)/\dx G dQ (some a) 2 (gJ [p,q])/\dm w G) (w:World) :
 dw 85 #[] w fun e G=>∃ a,e = .returned (.slice (some a) 2 2)/\nS G (some a) [o,r]/\dm w G:=by
 have A:=hid bC;have h:=hid (fun (M:World) (a4:OA) (ad:Nat) (am:OA) (f:Nat) (a5:OA) (y3:Nat) (b3:kN M p a4 ad am f a5 y3)=>Di ap b3);have L:=hid (fun (M:World) (a4:OA) (ad:Nat) (am:OA) (f:Nat) (a5:OA) (y3:Nat) (b3:kN M q a4 ad am f a5 y3)=>Di Q b3);clear bC ap Q;go_enter func85,ntmps85;go_wp2_with fail;refine (A _).mono ?_;rintro e dk ⟨a,rfl,an,aq⟩;have B:=hid aq;obtain ⟨b,C,E,a9,a0,au,a6,bn,a7,S⟩:=(dx.un (l:=[p,q]) an) 0 Ob;obtain rfl:=eX a7;have bA:=hid S.uv;simp only [oz,gF,gQ] at S bA;obtain ⟨bb,bf,be,b9,bm,bk,_,_,_,_,_⟩:=S;clear an aq a7;go_wp2_with fail;refine (h _ _ _ _ _ _ _ bA).mono ?_;rintro e w2 ⟨a4,ad,a5,y3,ax,b4,aG,bx,rfl,b6,g,aN⟩
 have c:=dn w2 (kU o a4 ad a5 y3 ax b4 aG bx);have O:=hid (dp B (dp aN c));have P:=hid (b6.later c);have ao:=hid g;have m:=hid (dX w2 (kU o a4 ad a5 y3 ax b4 aG bx));clear b6 g aN c bb bf be b9 bm bk bA B;go_wp2_with fail
 obtain ⟨aa,hW2⟩:∃ aa,aa=w2.alloc (kU o a4 ad a5 y3 ax b4 aG bx):=⟨_,rfl⟩
 rw [← hW2] at O P m ⊢;clear hW2;refine (A _).mono ?_;rintro e dC ⟨a,rfl,an,T⟩;have t:=hid (dp O T);have aM:=hid (P.later T);have bX:=hid (lj m T);obtain ⟨b,C,E,a9,a0,au,a6,bn,a7,S⟩:=(dx.un (l:=[p,q]) an) 1 Ob;obtain rfl:=eX a7;have bA:=hid S.uv;simp only [nD,oz,nF] at S bA;obtain ⟨bb,bf,be,b9,bm,bk,_,_,_,_,_⟩:=S;clear an T a7 O P m;go_wp2_with fail;refine (L _ _ _ _ _ _ _ bA).mono ?_;rintro e dD ⟨u1,aF,u3,bl,u4,a8,u5,u,rfl,H,hcr,bc⟩;have X:=hid (dp t bc);have F:=hid (aM.later bc);have al:=hid H;have d:=hid hcr;have b7:=hid (lj bX bc);clear H hcr bc bb bf be b9 bm bk bA t aM bX;obtain ⟨aH,az,aK,aW,bg,q5,q6,b5⟩:=fi b7
 go_wp2_with fail;go_ret;refine ⟨_,rfl,?_,dp X (e6 _ _ _)⟩;have:=L5 ad y3 b4 bx aF bl a8 u (F.later (dn dD (kU r u1 aF u3 bl u4 a8 u5 u))) (al.later (dn dD (kU r u1 aF u3 bl u4 a8 u5 u))) ao d 62;simp only [pv] at this;exact this
theorem L9 (w:World) :
 dw 85 #[] w fun e G=>∃ a,e = .returned (.slice (some a) 2 2)/\nS G (some a) [pS,oX]/\dm w G:=
 L7 qR qS pS oX L3 L6 L2 w
end Go.Proofs.YtndkhgakfodldaaGreatDoor
