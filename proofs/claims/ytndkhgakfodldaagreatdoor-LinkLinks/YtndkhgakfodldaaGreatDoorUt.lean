import Derived.Test.YtndkhgakfodldaaGreatDoorUr
import Derived.Test.YtndkhgakfodldaaGreatDoorPo
import Derived.Test.YtndkhgakfodldaaGreatDoorXe
namespace Go.Proofs.YtndkhgakfodldaaGreatDoor
set_option maxRecDepth 100000
set_option maxHeartbeats 1600000
open Go.RowKit Go.Maps Go.WideMaps
set_option linter.unusedSimpArgs false
def zvm:Fc:=⟨⟨#[99,110,116]⟩,[⟨1,3,0,⟨#[107]⟩⟩,⟨2,0,0,⟨#[115,117,109]⟩⟩,⟨3,4,1,⟨#[116]⟩⟩,⟨4,1,0,⟨#[100,111,119,110]⟩⟩]⟩
def z88 (r:Except Int Un):Un:=match r with | .ok u=>u | .error _=>⟨⟨#[]⟩,[],0,[],[]⟩
def zr5:Un:=z88 (zdy znq [])
def zr6:Un:=z88 (zdy zln [zvm])
theorem z4p:zdy znq [] = .ok zr5:=by kernel_rfl
theorem z4q:zdy zln [zvm] = .ok zr6:=by kernel_rfl
theorem EAt.num {w:World} {A:Nat->Prop} {a:OA} {n:Nat} {ds:List D} (h:EAt w A a n ds) (hn:n≠0):∃ b off,a=some (qa b off)/\b<w.heap.size/\A b/\∀ (j:Nat) (k:Int),ds[j]? = some (.int k)->w.cell? ⟨b,off+j,none⟩=some (qi k):=by
 rcases h with h | ⟨b,off,cs,ha,hA,hb,hc,hx⟩
 . exact absurd h hn
 . refine ⟨b,off,ha,hb,hA,fun j k hj=>?_⟩
   obtain ⟨v,hv,hd⟩:=hx.get j _ hj;rw [znu hd] at hv;exact hc j _ hv
theorem zr7 (w:World) :
 qc 57 #[] w fun e w'=>∃ ad cap,e = .returned (.agg #[.string ⟨#[99,110,116]⟩,.slice ad 4 cap])/\DAt w' Tt ad 4 (zgb zvm.items)/\qb w w':=by
 go_enter Tryz.func57,Tryz.ntmps57;go_wp2_with fail
 obtain ⟨W,hW⟩:∃ W,W=allocsC w [(#[.string ⟨#[99,110,116]⟩,.slice (some ⟨w.heap.size+1,0,none⟩) 4 4],30),(#[qi 1,qi 3,qi 0,.string ⟨#[107]⟩,qi 2,qi 0,qi 0,.string ⟨#[115,117,109]⟩,qi 3,qi 4,qi 1,.string ⟨#[116]⟩,qi 4,qi 1,qi 0,.string ⟨#[100,111,119,110]⟩],98)]:=⟨_,rfl⟩
 have hB:qb w W:=by rw [hW];exact zdw _ _
 have hD:DAt W Tt (some ⟨w.heap.size+1,0,none⟩) 4 (zgb zvm.items):=by
  rw [hW];refine zbz (zas w _ 1 _ _ rfl) ?_ (by decide) (by decide);exact .cons (zc6 rfl) (.cons (zc6 rfl) (.cons (zc6 rfl) (.cons (zed (by decide)) (.cons (zc6 rfl) (.cons (zc6 rfl) (.cons (zc6 rfl) (.cons (zed (by decide)) (.cons (zc6 rfl) (.cons (zc6 rfl) (.cons (zc6 rfl) (.cons (zed (by decide)) (.cons (zc6 rfl) (.cons (zc6 rfl) (.cons (zc6 rfl) (.cons (zed (by decide)) .nil)))))))))))))))
 refine bodyPost_ret (v:=.agg #[.string ⟨#[99,110,116]⟩,.slice (some ⟨w.heap.size+1,0,none⟩) 4 4]) (by simp [results,Tryz.results57,go_sem]) rfl ⟨some ⟨w.heap.size+1,0,none⟩,4,rfl,?_,?_⟩
 . rw [hW] at hD;exact hD
 . rw [hW] at hB;exact hB
set_option maxHeartbeats 12800000
structure Sg (w W:World) (b1 b3 b5:Nat) (a:OA) (cap:Nat) (s:ByteArray) (x1:OA) (n1 y1:Nat) (b2 o2 y2:Nat) (x3:OA) (n3 y3:Nat) (z1:OA) (d1:Nat) (z2:OA) (d2:Nat) (z3:OA) (d3:Nat) (z4:OA) (d4:Nat):Prop where
 below:qb w W
 h1:W.heap[b1]? = some (.cells #[.string ⟨#[99,110,116]⟩,.slice a 4 cap] 30 (0,0))
 its:Fx.zcj W a zvm.items
 fit:Fx.AllFit zvm.items
 h3:W.heap[b3]? = some (.cells #[.string s,.slice x1 n1 y1,qi 5,.slice (some (qa b2 o2)) 1 y2,.slice x3 n3 y3] 42 (0,0))
 l3:b2<W.heap.size
 c3:W.cell? ⟨b2,o2+1,none⟩=some (qi 1)
 h5:W.heap[b5]? = some (.cells #[.string ⟨#[116,111,112]⟩,.slice z1 1 d1,.slice z2 0 d2,.slice z3 0 d3,.slice z4 3 d4] 27 (0,0))
 mo:MoAt W Tt zln (.agg #[.string ⟨#[116,111,112]⟩,.slice z1 1 d1,.slice z2 0 d2,.slice z3 0 d3,.slice z4 3 d4]) z1 d1 z2 d2 z3 d3 z4 d4
theorem Sg.later {w W W':World} {b1 b3 b5:Nat} {a:OA} {cap:Nat} {s:ByteArray} {x1:OA} {n1 y1 b2 o2 y2:Nat} {x3:OA} {n3 y3:Nat} {z1 z2 z3 z4:OA} {d1 d2 d3 d4:Nat} (h:Sg w W b1 b3 b5 a cap s x1 n1 y1 b2 o2 y2 x3 n3 y3 z1 d1 z2 d2 z3 d3 z4 d4) (hb:qb W W'):Sg w W' b1 b3 b5 a cap s x1 n1 y1 b2 o2 y2 x3 n3 y3 z1 d1 z2 d2 z3 d3 z4 d4:=
 ⟨h.below.trans (hb.mono h.below.size),(hb.block _ (lt_of_heap h.h1)).trans h.h1,h.its.later hb,h.fit,(hb.block _ (lt_of_heap h.h3)).trans h.h3,vah h.l3 hb.size,(hb.cell (p:=⟨b2,o2+1,none⟩) h.l3).trans h.c3,(hb.block _ (lt_of_heap h.h5)).trans h.h5,h.mo.later hb⟩
structure Tg (W:World) (b7:Nat) (s:ByteArray) (x1:OA) (n1 y1:Nat) (d:Int) (x2:OA) (n2 y2 b3 o3 y3:Nat):Prop where
 h7:W.heap[b7]? = some (.cells #[.string s,.slice x1 n1 y1,qi d,.slice x2 n2 y2,.slice (some (qa b3 o3)) 3 y3] 42 (0,0))
 l7:b3<W.heap.size
 n:W.cell? ⟨b3,o3+1,none⟩=some (qi 4)
 m:W.cell? ⟨b3,o3+2,none⟩=some (qi 1)
 at':W.cell? ⟨b3,o3+3,none⟩=some (qi 1)
theorem Tg.later {W W':World} {b7:Nat} {s:ByteArray} {x1:OA} {n1 y1:Nat} {d:Int} {x2:OA} {n2 y2 b3 o3 y3:Nat} (h:Tg W b7 s x1 n1 y1 d x2 n2 y2 b3 o3 y3) (hb:qb W W'):Tg W' b7 s x1 n1 y1 d x2 n2 y2 b3 o3 y3:=
 ⟨(hb.block _ (lt_of_heap h.h7)).trans h.h7,vah h.l7 hb.size,(hb.cell (p:=⟨b3,o3+1,none⟩) h.l7).trans h.n,(hb.cell (p:=⟨b3,o3+2,none⟩) h.l7).trans h.m,(hb.cell (p:=⟨b3,o3+3,none⟩) h.l7).trans h.at'⟩
theorem zog {w:World} {ad:OA} {cp:Nat} (hD:DAt w Tt ad 4 (zgb zvm.items)) (t:TypeId):DAt (w.alloc (.cells #[.string ⟨#[99,110,116]⟩,.slice ad 4 cp] t)) Tt (some (qa w.heap.size 0)) 1 (z4i [zvm]):=by
 refine zbz (zas w [(#[.string ⟨#[99,110,116]⟩,.slice ad 4 cp],t)] 0 _ _ rfl) ?_ (by decide) (by decide);exact .cons (zed (by decide)) (.cons (hD.moves ⟨by simp,fun b hb _=>⟨trivial,(al1 _ _).block b hb⟩⟩).val .nil)
theorem zyv {w:World} {ad:OA} {cp:Nat} (hD:DAt w Tt ad 4 (zgb zvm.items)) (o:Obj) (t:TypeId):DAt ((w.alloc o).alloc (.cells #[.string ⟨#[99,110,116]⟩,.slice ad 4 cp] t)) Tt (some ⟨w.heap.size+1,0,none⟩) 1 (z4i [zvm]):=by
 have:=zog (cp:=cp) (hD.moves (w':=w.alloc o) ⟨by simp,fun b hb _=>⟨trivial,(al1 _ _).block b hb⟩⟩) t;simpa using this
theorem z77 {W:World} {b:Nat} {v0 v1 v2 v3 v4:Value} {t:TypeId} (h:W.heap[b]? = some (.cells #[v0,v1,v2,v3,v4] t (0,0))):W.cell? (qa b 0)=some v0/\W.cell? (qa b 1)=some v1/\W.cell? (qa b 2)=some v2/\W.cell? (qa b 3)=some v3/\W.cell? (qa b 4)=some v4:=
 have h3:=zaa h
 ⟨h3.1,h3.2.1,h3.2.2.1,h3.2.2.2.1,h3.2.2.2.2.1⟩
theorem za8 {w w':World} {b:Nat} {x:Obj} (h:w.heap[b]? = some x) (hb:qb w w'):w'.heap[b]? = some x:=(hb.block _ (lt_of_heap h)).trans h
theorem z78 (w:World) (o:Obj):(w.alloc o).drew.heap[w.heap.size]? = some o:=heap_newP w o
theorem z6p (w:World) (o p:Obj):((w.alloc o).alloc p).heap[w.heap.size+1]? = some p:=by simpa using heap_newP (w.alloc o) p
set_option maxHeartbeats 6400000
set_option linter.unusedVariables false
def Uls (w:World) (A:Nat->Prop) (u:Un) (x1 x2 x3:OA):Prop:=DAt w A x1 u.uses.length (zaw u.uses)/\DAt w A x2 u.parts.length (zke u.parts)/\DAt w A x3 u.main.length (zc7 u.main)
theorem Uls.moves {w w':World} {A A':Nat->Prop} {u:Un} {x1 x2 x3:OA} (h:Uls w A u x1 x2 x3) (m:zad w A w' A'):Uls w' A' u x1 x2 x3:=⟨h.1.moves m,h.2.1.moves m,h.2.2.moves m⟩
theorem z6q {w:World} {A:Nat->Prop} {u:Un} {x1 x2 x3:OA} (hf:D.fines u.ds) (h1:EAt w A x1 u.uses.length (zaw u.uses)) (h2:EAt w A x2 u.parts.length (zke u.parts)) (h3:EAt w A x3 u.main.length (zc7 u.main)):Uls w A u x1 x2 x3:=by
 simp only [Un.ds,D.fines,D.fine] at hf;obtain ⟨_,⟨a1,a2,a3⟩,_,⟨b1,b2,b3⟩,⟨c1,c2,c3⟩,_⟩:=hf;exact ⟨h1.toD a1 a2 a3,h2.toD b1 b2 b3,h3.toD c1 c2 c3⟩
structure UnIn (w:World) (b:Nat) (u:Un) (x1:OA) (xc1:Nat) (x2:OA) (xc2:Nat) (x3:OA) (xc3:Nat):Prop where
 blk:w.heap[b]? = some (.cells #[.string u.name,.slice x1 u.uses.length xc1,qi u.data,.slice x2 u.parts.length xc2,.slice x3 u.main.length xc3] 42 (0,0))
 ls:Uls w Tt u x1 x2 x3
theorem UnIn.later {w w':World} {b:Nat} {u:Un} {x1 x2 x3:OA} {xc1 xc2 xc3:Nat} (h:UnIn w b u x1 xc1 x2 xc2 x3 xc3) (hb:qb w w'):UnIn w' b u x1 xc1 x2 xc2 x3 xc3:=
 ⟨za8 h.blk hb,h.ls.moves (zad.of_below hb _)⟩
def z2u (u:Un) (w:World) (e:Ending) (w':World):Prop:=∃ x1 xc1 x2 xc2 x3 xc3,e = .returned (.tuple #[.agg #[.string u.name,.slice x1 u.uses.length xc1,qi u.data,.slice x2 u.parts.length xc2,.slice x3 u.main.length xc3],qi 0])/\Uls w' (w.heap.size<=·) u x1 x2 x3/\qb w w'
theorem z2v {m:Mo} {l:List Fc} {u:Un} (hr:zdy m l = .ok u) (hf:D.fines u.ds) {w:World} {v:Value} {a1 a2 a3 a4:OA} {c1 c2 c3 c4:Nat} (hM:MoAt w Tt m v a1 c1 a2 c2 a3 c3 a4 c4) {al:OA} (cl:Nat) (hF:DAt w Tt al l.length (z4i l)) :
 qc 21 #[v,.slice al l.length cl] w fun e w'=>z2u u w e w':=
 (zr4 m v a1 c1 a2 c2 a3 c3 a4 c4 l al cl w hM hF).mono fun e w' ⟨h,hb⟩=>by
   rw [hr] at h;obtain ⟨x1,y1,x2,y2,x3,y3,he,h1,h2,h3⟩:=h;exact ⟨x1,y1,x2,y2,x3,y3,he,z6q hf h1 h2 h3,hb⟩
theorem Uls.new {w:World} {A:Nat->Prop} {u:Un} {x1 x2 x3:OA} (xc1 xc2 xc3:Nat) (h:Uls w A u x1 x2 x3) (t:TypeId) (ht:t=42):UnIn (w.alloc (.cells #[.string u.name,.slice x1 u.uses.length xc1,qi u.data,.slice x2 u.parts.length xc2,.slice x3 u.main.length xc3] t)) w.heap.size u x1 xc1 x2 xc2 x3 xc3:=by
 subst ht;exact ⟨heap_newP _ _,h.moves ⟨by simp,fun b hb _=>⟨trivial,(al1 _ _).block b hb⟩⟩⟩
theorem Uls.set {w:World} {lo b:Nat} {u:Un} {x1 x2 x3:OA} (xc1 xc2 xc3:Nat) {v0 v1 v2 v3 v4:Value} (h:Uls w (lo<=·) u x1 x2 x3) (hz:w.heap[b]? = some (.cells #[v0,v1,v2,v3,v4] 42)) (hb:b<lo):UnIn (set5 w b (.string u.name) (.slice x1 u.uses.length xc1) (qi u.data) (.slice x2 u.parts.length xc2) (.slice x3 u.main.length xc3)) b u x1 xc1 x2 xc2 x3 xc3:=by
 refine ⟨heap_set (heap_set (heap_set (heap_set (heap_set hz _) _) _) _) _,h.moves ⟨by simp [set5],fun k hk hl=>⟨trivial,?_⟩⟩⟩
 have hn:k≠b:=by omega
 exact (heap_set_ne hn _).trans ((heap_set_ne hn _).trans ((heap_set_ne hn _).trans ((heap_set_ne hn _).trans (heap_set_ne hn _))))
theorem z6r {w:World} {u:Un} {x1 x2 x3:OA} (xc1 xc2 xc3:Nat) (hf:D.fines u.ds) (hn:u.name.size<=maxLen) (h:Uls w Tt u x1 x2 x3):zan w Tt u.ds [.string u.name,.slice x1 u.uses.length xc1,qi u.data,.slice x2 u.parts.length xc2,.slice x3 u.main.length xc3]:=by
 simp only [Un.ds,D.fines,D.fine] at hf;unfold Un.ds;exact .cons (zed hn) (.cons h.1.val (.cons (zc6 hf.2.2.1) (.cons h.2.1.val (.cons h.2.2.val .nil))))
theorem zr8 (u t:Un) (hu:zdy znq [] = .ok u) (ht:zdy zln [zvm] = .ok t) (GJ:D.fines u.ds) (Me:D.fines t.ds) (O9:u.name.size<=maxLen) (Oa:t.name.size<=maxLen) (w:World) :
 qc 75 #[] w fun e w'=>∃ a,e = .returned (.slice (some a) 2 2)/\DAt w' Tt (some a) 2 (z1k [u,t])/\qb w w':=by
 have HU:=hid (fun (W:World) (v:Value) (a1:OA) (c1:Nat) (a2:OA) (c2:Nat) (a3:OA) (c3:Nat) (a4:OA) (c4:Nat) (hM:MoAt W Tt znq v a1 c1 a2 c2 a3 c3 a4 c4)=>z2v hu GJ hM (al:=none) 0 ⟨vaa _,vae _,Or.inl rfl⟩)
 have HT:Hid (∀ (W:World) (v:Value) (a1:OA) (c1:Nat) (a2:OA) (c2:Nat) (a3:OA) (c3:Nat) (a4:OA) (c4:Nat),MoAt W Tt zln v a1 c1 a2 c2 a3 c3 a4 c4->∀ (al:OA) (cl:Nat),DAt W Tt al 1 (z4i [zvm])->qc 21 #[v,.slice al 1 cl] W fun e w'=>z2u t W e w'):=fun W v a1 c1 a2 c2 a3 c3 a4 c4 hM al cl hF=>z2v ht Me hM (l:=[zvm]) cl hF
 have Pq:=hid (And.intro GJ O9);have Ps:=hid (And.intro Me Oa);clear hu ht GJ Me O9 Oa;go_enter Tryz.func75,Tryz.ntmps75;go_wp2_with fail;refine (zrh _).mono ?_;rintro e w1 ⟨v,a1,c1,a2,c2,a3,c3,a4,c4,rfl,hM,A5⟩;have HM:=hid hM;have A8:=hid A5;clear hM A5;go_wp2_with fail;refine (HU.out _ _ _ _ _ _ _ _ _ _ HM.out).mono ?_;rintro e w2 ⟨x1,xc1,x2,xc2,x3,xc3,rfl,hC,Aa⟩;have HN:=hid (hC.new xc1 xc2 xc3 42 rfl);have Ad:=hid (thenB A8.out (thenB Aa (al1 w2 (kzC u.name x1 u.uses.length xc1 u.data x2 u.parts.length xc2 x3 u.main.length xc3))));clear hC Aa HM A8;go_wp2_with fail
 obtain ⟨W2,hW2⟩:∃ W2,W2=w2.alloc (kzC u.name x1 u.uses.length xc1 u.data x2 u.parts.length xc2 x3 u.main.length xc3):=⟨_,rfl⟩
 rw [← hW2] at HN Ad ⊢;clear hW2;refine (zri _).mono ?_;rintro e w5 ⟨rfl,h5⟩
 have OK:qb W2 w5:=by rw [h5];exact Below.refl _ _
 clear h5;go_wp2_with fail;refine (zxy w5).mono ?_;rintro e w6 ⟨u',z1,d1,z2,d2,z3,d3,z4,d4,rfl,hM,AH⟩;have OJ:=thenB OK AH;obtain rfl:u' = .agg #[.string ⟨#[116,111,112]⟩,.slice z1 1 d1,.slice z2 0 d2,.slice z3 0 d3,.slice z4 3 d4]:=hM.val;have HM:=hid hM;have Cb:=hid OJ;clear hM OJ AH OK;go_wp2_with fail
 obtain ⟨W6,hW6⟩:∃ W6,W6=w6.alloc (kzG ⟨#[116,111,112]⟩ z1 1 d1 z2 0 d2 z3 0 d3 z4 3 d4):=⟨_,rfl⟩
 have MF:qb w6 W6:=by rw [hW6];exact al1 _ _
 have hB:=thenB Cb.out MF;have JS:=hid (thenB Ad.out hB);have JR:=hid (HN.out.later hB)
 have Hh:Hid (W6.heap[w6.heap.size]? = some (.cells #[.string ⟨#[116,111,112]⟩,.slice z1 1 d1,.slice z2 0 d2,.slice z3 0 d3,.slice z4 3 d4] 27 (0,0))/\MoAt W6 Tt zln (.agg #[.string ⟨#[116,111,112]⟩,.slice z1 1 d1,.slice z2 0 d2,.slice z3 0 d3,.slice z4 3 d4]) z1 d1 z2 d2 z3 d3 z4 d4):=⟨by rw [hW6];exact heap_newP _ _,HM.out.later MF⟩
 rw [← hW6];clear hW6 MF hB Cb Ad HM HN
 rename_i K hK
 have TAIL:∀ {W9:World} {b7:Nat} {y1 y2 y3:OA} {Eu Et Es:Nat} {t7 t8 t9 NU NT NS NR NQ NP NO NN NM NL NK t21 NJ NI NH NG NF:Value},qb w W9->UnIn W9 w2.heap.size u x1 xc1 x2 xc2 x3 xc3->UnIn W9 b7 t y1 Eu y2 Et y3 Es->K { tmps:=#[qs,pq w2.heap.size 0,qi 0,pq w6.heap.size 0,qi 0,pq b7 0,qi 0,t7,t8,t9,NU,NT,NS,NR,NQ,NP,NO,NN,NM,NL,NK,t21,NJ,NI,NH,NG,NF],defers:=[] } W9:=by
  intro W9 b7 y1 y2 y3 Eu Et Es t7 t8 t9 NU NT NS NR NQ NP NO NN NM NL NK t21 NJ NI NH NG NF BE h1 h2;have BT:=hid BE;have H1:=hid h1;have H2:=hid h2;obtain ⟨q0,q1,q2,q3,q4⟩:=z77 h1.blk;obtain ⟨r0,r1,r2,r3,r4⟩:=z77 h2.blk;have qz:=lt_of_heap h1.blk;have rz:=lt_of_heap h2.blk;clear BE h1 h2 JS JR Hh;refine hK _ _ ?_;clear hK;go_wp2_with fail;have ME:=al1 W9 (.cells #[.string u.name,.slice x1 u.uses.length xc1,qi u.data,.slice x2 u.parts.length xc2,.slice x3 u.main.length xc3,.string t.name,.slice y1 t.uses.length Eu,qi t.data,.slice y2 t.parts.length Et,.slice y3 t.main.length Es] 42);go_ret;refine ⟨(qa W9.heap.size 0),rfl,?_,thenB BT.out ME⟩;refine zbz (Blk.new W9 _ _) ?_ (by simp [z1k,Un.ds]) (by simp [z1k,Un.ds])
  have e:z1k [u,t]=u.ds++t.ds:=by simp [z1k]
  rw [e];have k1:=z6r xc1 xc2 xc3 Pq.out.1 Pq.out.2 (H1.out.ls.moves (zad.of_below ME _));have k2:=z6r Eu Et Es Ps.out.1 Ps.out.2 (H2.out.ls.moves (zad.of_below ME _));exact k1.append k2
 clear hK;have TW:=hid (za8 Hh.out.1 (bdrew W6));have Aq:=lt_of_heap Hh.out.1;have CH:=hid (fun (W:World) (hW:qb W6 W)=>z77 (za8 Hh.out.1 hW))
 go_region_held (fun W=>W.cell? (qa w6.heap.size 0)=some (.string ⟨#[116,111,112]⟩)/\W.cell? (qa w6.heap.size 1)=some (.slice z1 1 d1)/\W.cell? (qa w6.heap.size 2)=some (.slice z2 0 d2)/\W.cell? (qa w6.heap.size 3)=some (.slice z3 0 d3)/\W.cell? (qa w6.heap.size 4)=some (.slice z4 3 d4))
  (first | with_reducible exact CH.out _ B6.out | with_reducible exact CH.out _ (thenB B6.out (al1 _ _)) | with_reducible exact CH.out _ (zdg B6.out (by omega) _ _ _ _ _) | with_reducible exact CH.out _ Bw.out | with_reducible exact CH.out _ (thenB Bw.out (al1 _ _)) | with_reducible exact CH.out _ (thenB Bw.out (bl2 _ _ _)) | with_reducible exact CH.out _ (bdrew _) | with_reducible exact CH.out _ (zbd _ _) | with_reducible exact CH.out _ (thenB (bdrew _) (al1 _ _)))
  (first
  | (go_at_call 57;refine (zr7 _).mono ?_;rintro e w7 ⟨ad,cp,rfl,hD,AO⟩;have Nw:=hid hD;(first | (with_reducible have Bw:=hid (thenB (bdrew W6) AO)) | (have OQ:=hid (za8 (z78 W6 _) AO);have Bw:=hid (thenB (zbd W6 _) AO)));have IW:=Bw.out.size;clear hD AO)
  | (go_at_call 21;(with_reducible refine (HT.out _ _ _ _ _ _ _ _ _ _ (Hh.out.2.later (thenB Bw.out (al1 _ _))) _ _ (zog Nw.out _)).mono ?_);rintro e w8 ⟨y1,Eu,y2,Et,y3,Es,rfl,hC,AR⟩;have D3:=hid hC;have B6:=hid (thenB Bw.out (thenB (al1 _ _) AR));(first | (with_reducible refine And.elim ?_ (ztz (za8 (za8 OQ.out (al1 _ _)) AR));intro e0 AY;have JI:=hid (za8 (za8 OQ.out (al1 _ _)) AR);obtain ⟨e1,e2,e3,e4,ef,Ei⟩:=AY) | skip);clear hC AR)
  | (go_at_call 21;(with_reducible refine (HT.out _ _ _ _ _ _ _ _ _ _ (Hh.out.2.later (thenB Bw.out (bl2 _ _ _))) _ _ ((zog Nw.out _).later (al1 _ _))).mono ?_);rintro e w8 ⟨y1,Eu,y2,Et,y3,Es,rfl,hC,AR⟩;have D3:=hid hC;have B6:=hid (thenB Bw.out (thenB (bl2 _ _ _) AR));(refine And.elim ?_ (ztz (za8 (z6p w7 _ _) AR));intro e0 AY;have JI:=hid (za8 (z6p w7 _ _) AR);obtain ⟨e1,e2,e3,e4,ef,Ei⟩:=AY);clear hC AR)
  | (go_at_call 21;(with_reducible refine (HT.out _ _ _ _ _ _ _ _ _ _ (Hh.out.2.later (thenB Bw.out (bl2 _ _ _))) _ _ (zyv Nw.out _ _)).mono ?_);rintro e w8 ⟨y1,Eu,y2,Et,y3,Es,rfl,hC,AR⟩;have D3:=hid hC;have B6:=hid (thenB Bw.out (thenB (bl2 _ _ _) AR));(refine And.elim ?_ (ztz (za8 (zab (heap_newP w7 _)) AR));intro e0 AY;have JI:=hid (za8 (zab (heap_newP w7 _)) AR);obtain ⟨e1,e2,e3,e4,ef,Ei⟩:=AY);clear hC AR))
 . show K _ _
   exact TAIL (thenB JS.out (thenB B6.out (al1 w8 _))) (JR.out.later (thenB B6.out (al1 w8 _))) (D3.out.new Eu Et Es 42 rfl)
 . show K _ _
   exact TAIL (thenB JS.out (zdg B6.out (b:=w7.heap.size+1) (by omega) _ _ _ _ _)) (JR.out.later (zdg B6.out (b:=w7.heap.size+1) (by omega) _ _ _ _ _)) (D3.out.set Eu Et Es JI.out (by simp<;>omega))
 . show K _ _
   exact TAIL (thenB JS.out (zdg B6.out (b:=w7.heap.size) (by omega) _ _ _ _ _)) (JR.out.later (zdg B6.out (b:=w7.heap.size) (by omega) _ _ _ _ _)) (D3.out.set Eu Et Es JI.out (by simp<;>omega))
 . show K _ _
   exact TAIL (thenB JS.out (zdg B6.out (b:=W6.heap.size) (by omega) _ _ _ _ _)) (JR.out.later (zdg B6.out (b:=W6.heap.size) (by omega) _ _ _ _ _)) (D3.out.set Eu Et Es JI.out (by simp<;>omega))
theorem z1x:D.fines zr5.ds:=ze5 _ (by kernel_rfl)
theorem z1y:D.fines zr6.ds:=ze5 _ (by kernel_rfl)
theorem zyw {n k:Nat} (h:n=k) (hk:k<=maxLen):n<=maxLen:=h ▸ hk
theorem zr9 (w:World) :
 qc 75 #[] w fun e w'=>∃ a,e = .returned (.slice (some a) 2 2)/\DAt w' Tt (some a) 2 (z1k [zr5,zr6])/\qb w w':=
 zr8 zr5 zr6 z4p z4q z1x z1y (zyw (k:=3) (by kernel_rfl) (by decide)) (zyw (k:=3) (by kernel_rfl) (by decide)) w
def zqa:Ob:=zop zr5
theorem z4r:zvs zr5 = .ok zqa:=by kernel_rfl
theorem DAt.ints {w:World} {A:Nat->Prop} {a:OA} {n:Nat} {ds:List D} (h:DAt w A a n ds) (hn:0<n):∃ b off,a=some (qa b off)/\b<w.heap.size/\∀ (j:Nat) (k:Int),ds[j]? = some (.int k)->w.cell? ⟨b,off+j,none⟩=some (qi k):=by
 obtain ⟨b,off,ha,hb,hc⟩:=h.cell hn;refine ⟨b,off,ha,hb,fun j k hj=>?_⟩;obtain ⟨v,hv,hd⟩:=hc j _ hj;rw [(zaz hd).1] at hv;exact hv
structure Cob (w:World) (b3 o3 b4 o4 b5 o5:Nat):Prop where
 l3:b3<w.heap.size
 c0:w.cell? ⟨b3,o3+12,none⟩=some (qi 12)
 c1:w.cell? ⟨b3,o3+13,none⟩=some (qi 15)
 c2:w.cell? ⟨b3,o3+14,none⟩=some (qi 0)
 c3:w.cell? ⟨b3,o3+15,none⟩=some (qi 16)
 l4:b4<w.heap.size
 f0:w.cell? (qa b4 o4)=some (qi 4)
 f1:w.cell? ⟨b4,o4+1,none⟩=some (qi 1)
 f2:w.cell? ⟨b4,o4+2,none⟩=some (qi 0)
 f3:w.cell? ⟨b4,o4+3,none⟩=some (qi 6)
 f4:w.cell? ⟨b4,o4+4,none⟩=some (qi 3)
 f5:w.cell? ⟨b4,o4+5,none⟩=some (qi 0)
 en:DAt w Tt (some (qa b5 o5)) 1 (zfm [0])
theorem Cob.later {w w':World} {b3 o3 b4 o4 b5 o5:Nat} (h:Cob w b3 o3 b4 o4 b5 o5) (hb:qb w w'):Cob w' b3 o3 b4 o4 b5 o5:=
 have k3:∀ j,w'.cell? (qa b3 j)=w.cell? (qa b3 j):=fun j=>hb.cell (p:=(qa b3 j)) h.l3
 have k4:∀ j,w'.cell? (qa b4 j)=w.cell? (qa b4 j):=fun j=>hb.cell (p:=(qa b4 j)) h.l4
 ⟨vah h.l3 hb.size,(k3 _).trans h.c0,(k3 _).trans h.c1,(k3 _).trans h.c2,(k3 _).trans h.c3,vah h.l4 hb.size,(k4 _).trans h.f0,(k4 _).trans h.f1,(k4 _).trans h.f2,(k4 _).trans h.f3,(k4 _).trans h.f4,(k4 _).trans h.f5,h.en.later hb⟩
def z6s (l:List Ob):List D:=l.flatMap Ob.ds
structure ObAt (w:World) (b off:Nat) (o:Ob) (x1:OA) (y1:Nat) (x3:OA) (y3:Nat) (x4:OA) (y4:Nat) (x5:OA) (y5:Nat):Prop where
 lt:b<w.heap.size
 c0:w.cell? (qa b off)=some (.string o.name)
 c1:w.cell? ⟨b,off+1,none⟩=some (.slice x1 o.uses.length y1)
 c2:w.cell? ⟨b,off+2,none⟩=some (qi o.data)
 c3:w.cell? ⟨b,off+3,none⟩=some (.slice x3 o.code.length y3)
 c4:w.cell? ⟨b,off+4,none⟩=some (.slice x4 o.fixes.length y4)
 c5:w.cell? ⟨b,off+5,none⟩=some (.slice x5 o.entries.length y5)
 c6:w.cell? ⟨b,off+6,none⟩=some (qi o.main)
 ov:OvAt w o x1 x3 x4 x5
theorem DAt.ob {w:World} {a:OA} {l:List Ob} (h:DAt w Tt a l.length (z6s l)) (i:Nat) (hi:i<l.length):∃ b off x1 y1 x3 y3 x4 y4 x5 y5,a=some (qa b off)/\ObAt w b (off+i*7) l[i] x1 y1 x3 y3 x4 y4 x5 y5:=by
 obtain ⟨b,off,ha,hb,hc⟩:=h.cell (by omega);generalize hx:l[i]=x;obtain ⟨name,uses,data,code,fixes,entries,main⟩:=x
 have g:∀ j d,j<7->(Ob.mk name uses data code fixes entries main).ds[j]? = some d->∃ v,w.cell? ⟨b,off+i*7+j,none⟩=some v/\zcv w Tt d v:=fun j d hj hd=>by
  rw [vbm];exact hc (i*7+j) d ((zcc Ob.ds 7 (fun _=>rfl) l i hi j hj).trans (by rw [hx];exact hd))
 obtain ⟨v0,q0,d0⟩:=g 0 (.str name) (by omega) rfl;obtain ⟨v1,q1,d1⟩:=g 1 (.list uses.length (zaw uses)) (by omega) rfl;obtain ⟨v2,q2,d2⟩:=g 2 (.int data) (by omega) rfl;obtain ⟨v3,q3,d3⟩:=g 3 (.list code.length (zvt code)) (by omega) rfl;obtain ⟨v4,q4,d4⟩:=g 4 (.list fixes.length (z19 fixes)) (by omega) rfl;obtain ⟨v5,q5,d5⟩:=g 5 (.list entries.length (zfm entries)) (by omega) rfl;obtain ⟨v6,q6,d6⟩:=g 6 (.int main) (by omega) rfl;obtain ⟨rfl,w0⟩:=zcw d0;obtain ⟨x1,y1,rfl,h1⟩:=zav d1;obtain ⟨rfl,w2⟩:=zaz d2;obtain ⟨x3,y3,rfl,h3⟩:=zav d3;obtain ⟨x4,y4,rfl,h4⟩:=zav d4;obtain ⟨x5,y5,rfl,h5⟩:=zav d5;obtain ⟨rfl,w6⟩:=zaz d6;exact ⟨b,off,x1,y1,x3,y3,x4,y4,x5,y5,ha,hb,q0,q1,q2,q3,q4,q5,q6,w0,h1,w2,h3,h4,h5,w6⟩
def z79 (w:World) (a:OA) (n:Nat):Prop:=∀ b off,a=some (qa b off)->∀ i,i<n->∃ x k y,w.cell? ⟨b,off+i*7+1,none⟩=some (.slice x k y)/\k<=y
def zkw (w:World) (a:OA) (l:List Ob):Prop:=DAt w Tt a l.length (z6s l)/\z79 w a l.length
theorem zkw.later {w w':World} {a:OA} {l:List Ob} (h:zkw w a l) (hb:qb w w'):zkw w' a l:=by
 refine ⟨h.1.later hb,fun b off ha i hi=>?_⟩;obtain ⟨x,k,y,hc,hk⟩:=h.2 b off ha i hi;obtain ⟨b',BG,_,_,_,_,_,_,_,_,Cd,hO⟩:=DAt.ob (l:=l) h.1 i hi;rw [ha] at Cd
 cases Cd
 exact ⟨x,k,y,(hb.cell (p:=⟨b,off+i*7+1,none⟩) hO.lt).trans hc,hk⟩
theorem zkw.ob {w:World} {a:OA} {l:List Ob} (h:zkw w a l) (i:Nat) (hi:i<l.length):∃ b off x1 y1 x3 y3 x4 y4 x5 y5,a=some (qa b off)/\ObAt w b (off+i*7) l[i] x1 y1 x3 y3 x4 y4 x5 y5/\l[i].uses.length<=y1:=by
 obtain ⟨b,off,x1,y1,x3,y3,x4,y4,x5,y5,ha,hO⟩:=DAt.ob h.1 i hi;obtain ⟨x,k,y,hc,hk⟩:=h.2 b off ha i hi;have h1:=hO.c1;rw [hc] at h1;cases h1;exact ⟨b,off,x1,y1,x3,y3,x4,y4,x5,y5,ha,hO,hk⟩
theorem zyx {w:World} {o:Ob} {x1 x3 x4 x5:OA} (y1 y3 y4 y5:Nat) (h:OvAt w o x1 x3 x4 x5):zan w Tt o.ds [.string o.name,.slice x1 o.uses.length y1,qi o.data,.slice x3 o.code.length y3,.slice x4 o.fixes.length y4,.slice x5 o.entries.length y5,qi o.main]:=by
 unfold Ob.ds;exact .cons (zed h.wn) (.cons h.uses.val (.cons (zc6 h.wd) (.cons h.code.val (.cons h.fixes.val (.cons h.entries.val (.cons (zc6 h.wm) .nil))))))
theorem z4s {w:World} {o p:Ob} {x1 x3 x4 x5 u1 u3 u4 u5:OA} (y1 y3 y4 y5 v1 v3 v4 v5:Nat) (h:OvAt w o x1 x3 x4 x5) (k:OvAt w p u1 u3 u4 u5) (h1:o.uses.length<=y1) (k1:p.uses.length<=v1) (t:TypeId) :
 zkw (w.alloc (.cells #[.string o.name,.slice x1 o.uses.length y1,qi o.data,.slice x3 o.code.length y3,.slice x4 o.fixes.length y4,.slice x5 o.entries.length y5,qi o.main,.string p.name,.slice u1 p.uses.length v1,qi p.data,.slice u3 p.code.length v3,.slice u4 p.fixes.length v4,.slice u5 p.entries.length v5,qi p.main] t)) (some (qa w.heap.size 0)) [o,p]:=by
 have hb:=Blk.new w #[.string o.name,.slice x1 o.uses.length y1,qi o.data,.slice x3 o.code.length y3,.slice x4 o.fixes.length y4,.slice x5 o.entries.length y5,qi o.main,.string p.name,.slice u1 p.uses.length v1,qi p.data,.slice u3 p.code.length v3,.slice u4 p.fixes.length v4,.slice u5 p.entries.length v5,qi p.main] t
 have e:z6s [o,p]=o.ds++p.ds:=by simp [z6s]
 refine ⟨zbz hb ?_ (by rw [e];simp [Ob.ds]) (by rw [e];simp [Ob.ds]),fun b off ha i hi=>?_⟩
 . rw [e]
   have m:zad w Tt (w.alloc (.cells #[.string o.name,.slice x1 o.uses.length y1,qi o.data,.slice x3 o.code.length y3,.slice x4 o.fixes.length y4,.slice x5 o.entries.length y5,qi o.main,.string p.name,.slice u1 p.uses.length v1,qi p.data,.slice u3 p.code.length v3,.slice u4 p.fixes.length v4,.slice u5 p.entries.length v5,qi p.main] t)) Tt:=⟨by simp,fun b hb _=>⟨trivial,(al1 _ _).block b hb⟩⟩
   exact (zyx y1 y3 y4 y5 (h.later (al1 _ _))).append (zyx v1 v3 v4 v5 (k.later (al1 _ _)))
 . cases ha
   have CZ:i=0\/i=1:=by simp at hi;omega
   rcases CZ with rfl | rfl
   . exact ⟨x1,_,y1,hb.cell 1 _ rfl,h1⟩
   . exact ⟨u1,_,v1,hb.cell 8 _ rfl,k1⟩
def zoh:Ob:=zop zr6
theorem z4t:zvs zr6 = .ok zoh:=by kernel_rfl
theorem zsa (p q:Un) (o r:Ob) (ho:zvs p = .ok o) (hr:zvs q = .ok r) (hP:∀ w:World,qc 75 #[] w fun e w'=>∃ a,e = .returned (.slice (some a) 2 2)/\DAt w' Tt (some a) 2 (z1k [p,q])/\qb w w') (w:World) :
 qc 85 #[] w fun e w'=>∃ a,e = .returned (.slice (some a) 2 2)/\zkw w' (some a) [o,r]/\qb w w':=by
 have HP:=hid hP;have Ki:=hid (fun (W:World) (x1:OA) (y1:Nat) (x2:OA) (y2:Nat) (x3:OA) (y3:Nat) (hU:UvAt W p x1 y1 x2 y2 x3 y3)=>z2t ho hU);have S6:=hid (fun (W:World) (x1:OA) (y1:Nat) (x2:OA) (y2:Nat) (x3:OA) (y3:Nat) (hU:UvAt W q x1 y1 x2 y2 x3 y3)=>z2t hr hU);clear hP ho hr;go_enter Tryz.func85,Tryz.ntmps85;go_wp2_with fail;refine (HP.out _).mono ?_;rintro e w1 ⟨a,rfl,hD,A5⟩;have A8:=hid A5;obtain ⟨b,off,a1,k1,a2,k2,a3,k3,ha,hx⟩:=(DAt.un (l:=[p,q]) hD) 0 (by simp);obtain rfl:=vai ha;have HU:=hid hx.uv;simp only [vbl,vbk,vbs] at hx HU;obtain ⟨Au,z0,z1,z2,z3,z4,_,_,_,_,_⟩:=hx;clear hD A5 ha;go_wp2_with fail;refine (Ki.out _ _ _ _ _ _ _ HU.out).mono ?_;rintro e w2 ⟨x1,y1,x3,y3,x4,y4,x5,y5,rfl,hO,DE,Aa⟩
 have MD:=al1 w2 (oC o x1 y1 x3 y3 x4 y4 x5 y5);have Ad:=hid (thenB A8.out (thenB Aa MD));have HO:=hid (hO.later MD);have HC:=hid DE;have D1:=hid (heap_newP w2 (oC o x1 y1 x3 y3 x4 y4 x5 y5));clear hO DE Aa MD Au z0 z1 z2 z3 z4 HU A8;go_wp2_with fail
 obtain ⟨W2,hW2⟩:∃ W2,W2=w2.alloc (oC o x1 y1 x3 y3 x4 y4 x5 y5):=⟨_,rfl⟩
 rw [← hW2] at Ad HO D1 ⊢;clear hW2;refine (HP.out _).mono ?_;rintro e w3 ⟨a,rfl,hD,A9⟩;have Af:=hid (thenB Ad.out A9);have EN:=hid (HO.out.later A9);have CI:=hid (za8 D1.out A9);obtain ⟨b,off,a1,k1,a2,k2,a3,k3,ha,hx⟩:=(DAt.un (l:=[p,q]) hD) 1 (by simp);obtain rfl:=vai ha;have HU:=hid hx.uv;simp only [vbt,vbl,vdr] at hx HU;obtain ⟨Au,z0,z1,z2,z3,z4,_,_,_,_,_⟩:=hx;clear hD A9 ha Ad HO D1;go_wp2_with fail;refine (S6.out _ _ _ _ _ _ _ HU.out).mono ?_;rintro e w4 ⟨u1,v1,u3,v3,u4,v4,u5,v5,rfl,hR,hcr,Ah⟩;have An:=hid (thenB Af.out Ah);have E8:=hid (EN.out.later Ah);have AP:=hid hR;have IG:=hid hcr;have DJ:=hid (za8 CI.out Ah);clear hR hcr Ah Au z0 z1 z2 z3 z4 HU Af EN CI;obtain ⟨q0,q1,q2,q3,q4,q5,q6,qz⟩:=zaj DJ.out
 go_wp2_with fail;go_ret;refine ⟨_,rfl,?_,thenB An.out (bl2 _ _ _)⟩;have:=z4s y1 y3 y4 y5 v1 v3 v4 v5 (E8.out.later (al1 w4 (oC r u1 v1 u3 v3 u4 v4 u5 v5))) (AP.out.later (al1 w4 (oC r u1 v1 u3 v3 u4 v4 u5 v5))) HC.out IG.out 62;simp only [vck] at this;exact this
theorem zsb (w:World) :
 qc 85 #[] w fun e w'=>∃ a,e = .returned (.slice (some a) 2 2)/\zkw w' (some a) [zqa,zoh]/\qb w w':=
 zsa zr5 zr6 zqa zoh z4r z4t zr9 w
theorem zcz {B:Nat} {a w:World} (h:Below B a w) (m:Nat):Below B a (w.drewN m):=⟨h.os,h.tape,h.output,h.size,h.block⟩
end Go.Proofs.YtndkhgakfodldaaGreatDoor

namespace Go.Proofs.YtndkhgakfodldaaGreatDoor
set_option maxRecDepth 100000
set_option maxHeartbeats 800000
open Go.RowKit Go.Shelf
set_option linter.unusedSimpArgs false
set_option linter.unusedVariables false
structure Wk where
 au:OA
 cu:Nat
 an:OA
 cn:Nat
 ab:OA
 cb:Nat
 D:Nat
 cd:Nat
 S:Nat
def natI (l:List Nat):List Int:=l.map Int.ofNat
def zsc (l:List (List Nat)):List D:=l.map fun r=>.list r.length (zfm (natI r))
abbrev wC (cx:Cx) (K:Wk) (ai:OA) (ci:Nat) (vo:Value) (s:Sw) (e:Int):Array Value:=#[.slice K.au cx.us.length K.cu,.slice K.an cx.near.length K.cn,.slice K.ab cx.beg.length K.cb,.slice (some (qa K.D 0)) s.data.length K.cd,.slice ai s.inp.length ci,vo,qi cx.lim,qi s.ticks,qi s.calls,qi e]
structure Ro (w:World) (B base:Nat) (cx:Cx) (K:Wk):Prop where
 us:DAt w (·<base) K.au cx.us.length (z1k cx.us)
 near:DAt w (fun b=>b<K.S/\b≠B/\b≠K.D) K.an cx.near.length (zsc cx.near)
 beg:DAt w (fun b=>b<K.S/\b≠B/\b≠K.D) K.ab cx.beg.length (zfm cx.beg)
 lB:base<=B
 lD:base<=K.D
 BS:B<K.S
 DS:K.D<K.S
 BD:B≠K.D
 zS:K.S<=w.heap.size
theorem Ro.moves {w w':World} {B base:Nat} {cx:Cx} {K:Wk} (h:Ro w B base cx K) (hz:w.heap.size<=w'.heap.size) (hk:∀ b,b<K.S->b≠B->b≠K.D->w'.heap[b]? = w.heap[b]?):Ro w' B base cx K:=
 have h1:=h.lB;have h2:=h.lD;have h3:=h.BS
 ⟨h.us.moves ⟨hz,fun b _ hl=>⟨hl,hk b (by omega) (by omega) (by omega)⟩⟩,h.near.moves ⟨hz,fun b _ hl=>⟨hl,hk b hl.1 hl.2.1 hl.2.2⟩⟩,h.beg.moves ⟨hz,fun b _ hl=>⟨hl,hk b hl.1 hl.2.1 hl.2.2⟩⟩,h.lB,h.lD,h.BS,h.DS,h.BD,vbd h.zS hz⟩
structure Wd (w:World) (B base:Nat) (cx:Cx) (K:Wk) (vo:Value) (s:Sw) (e:Int):Prop where
 blk:∃ ai ci,w.heap[B]? = some (.cells (wC cx K ai ci vo s e) 128 (0,0))/\DAt w (·<base) ai s.inp.length (zfm s.inp)/\s.inp.length<=ci
 data:w.heap[K.D]? = some (.cells (intV s.data).toArray 3 (0,0))
 out:w.ownsRow K.S 3 1 vo s.out.length (intV s.out)
 ro:Ro w B base cx K
 cd:K.cd=s.data.length
 dl:s.data.length<=512
 tl:s.ticks<=cx.lim
 tm:cx.lim<=1000000
 cl:s.calls<=24
 ol:s.out.length<=200
theorem Wd.oB {w:World} {B base:Nat} {cx:Cx} {K:Wk} {vo:Value} {s:Sw} {e:Int} (h:Wd w B base cx K vo s e):vo.ownBlock≠some B:=fun x=>by have:=(h.out.lt B x).1;have:=h.ro.BS;omega
theorem Wd.oD {w:World} {B base:Nat} {cx:Cx} {K:Wk} {vo:Value} {s:Sw} {e:Int} (h:Wd w B base cx K vo s e):vo.ownBlock≠some K.D:=fun x=>by have:=(h.out.lt K.D x).1;have:=h.ro.DS;omega
structure Fm (B D:Nat) (vo vo':Value) (w w':World):Prop where
 os:w'.os=w.os
 tape:w'.tape=w.tape
 output:w'.output=w.output
 size:w.heap.size<=w'.heap.size
 block:∀ b,b<w.heap.size->b≠B->b≠D->vo.ownBlock≠some b->w'.heap[b]? = w.heap[b]?
 own:∀ k,vo'.ownBlock=some k->k<w.heap.size->vo.ownBlock=some k
theorem Fm.refl (B D:Nat) (vo:Value) (w:World):Fm B D vo vo w w:=⟨rfl,rfl,rfl,vaa _,fun _ _ _ _ _=>rfl,fun _ h _=>h⟩
theorem Fm.trans {B D:Nat} {v1 v2 v3:Value} {a b c:World} (h:Fm B D v1 v2 a b) (k:Fm B D v2 v3 b c):Fm B D v1 v3 a c:=
 ⟨k.os.trans h.os,k.tape.trans h.tape,k.output.trans h.output,vbd h.size k.size,fun x hx h1 h2 h3=>(k.block x (vah hx h.size) h1 h2 (fun e=>h3 (h.own x e hx))).trans (h.block x hx h1 h2 h3),fun x e hx=>h.own x (k.own x e (vah hx h.size)) hx⟩
theorem Fm.grown {B D:Nat} {vo:Value} {w w':World} (h:w.grownBy w' (some B)):Fm B D vo vo w w':=⟨h.os,h.tape,h.output,h.size,fun b hb h1 _ _=>h.block b hb (fun e=>h1 (vai e)),fun _ h _=>h⟩
theorem Fm.below {B D:Nat} {vo:Value} {w w':World} (h:qb w w'):Fm B D vo vo w w':=⟨h.os,h.tape,h.output,h.size,fun b hb _ _ _=>h.block b hb,fun _ h _=>h⟩
abbrev z4u (c:Int):List PanicEntry:=[{ v:=.iface 3 (qi c),recovered:=false }]
def Sr {α:Type} (AD:α->Value) (B base:Nat) (cx:Cx) (K:Wk) (w:World) (vo:Value) (r:Rr α) (e:Ending) (w':World):Prop:=
 ∃ vo',Fm B K.D vo vo' w w'/\((∃ a s,r = .ok a s/\e = .returned (AD a)/\Wd w' B base cx K vo' s 0)\/(∃ c s,r = .stop c s/\e = .panicked (z4u c)/\Wd w' B base cx K vo' s c))
def z89 (n:Int):Value:=qi n
def z8a (_:Unit):Value:=.tuple #[]
theorem zep {w:World} {b:Nat} {x0 x1 x2 x3 x4 x5 x6 x7 x8 x9:Value} {t:TypeId} (h:w.heap[b]? = some (.cells #[x0,x1,x2,x3,x4,x5,x6,x7,x8,x9] t (0,0))) :
 w.cell? (qa b 0)=some x0/\w.cell? (qa b 1)=some x1/\w.cell? (qa b 2)=some x2/\w.cell? (qa b 3)=some x3/\w.cell? (qa b 4)=some x4/\w.cell? (qa b 5)=some x5/\w.cell? (qa b 6)=some x6/\w.cell? (qa b 7)=some x7/\w.cell? (qa b 8)=some x8/\w.cell? (qa b 9)=some x9/\b<w.heap.size/\∀ j,w.frozen? (qa b j)=false:=by
 refine ⟨?_,?_,?_,?_,?_,?_,?_,?_,?_,?_,lt_of_heap h,fun j=>veq h j⟩<;>(rw [vep h];rfl)
theorem zdz {w:World} {B i:Nat} {u:Value}:w.grownBy (w.setCell (qa B i) u) (some B):=⟨rfl,rfl,rfl,by simp,fun k _ Aj=>heap_set_ne (fun e=>Aj (by rw [e])) u⟩
theorem Wd.put {w:World} {B base:Nat} {cx:Cx} {K:Wk} {vo:Value} {s s':Sw} {e e':Int} {i:Nat} {u:Value} (h:Wd w B base cx K vo s e) (hs:∀ ai ci,(wC cx K ai ci vo s e).setIfInBounds i u=wC cx K ai ci vo s' e') (h1:s'.data=s.data) (h2:s'.inp=s.inp) (h3:s'.out=s.out) (h4:s'.ticks<=cx.lim) (h5:s'.calls<=24):Wd (w.setCell (qa B i) u) B base cx K vo s' e':=by
 obtain ⟨ai,ci,hb,hi,hc⟩:=h.blk;have h6:=h.ro.lB;refine ⟨⟨ai,ci,?_,?_,by rw [h2];exact hc⟩,?_,?_,h.ro.moves (by simp) (fun b _ hn _=>heap_set_ne (by show b≠B;exact hn) u),by rw [h1];exact h.cd,by rw [h1];exact h.dl,h4,h.tm,h5,by rw [h3];exact h.ol⟩
 . rw [heap_set hb u,hs]
 . rw [h2]
   exact hi.moves ⟨by simp,fun b _ A0=>⟨A0,heap_set_ne (by show b≠B;omega) u⟩⟩
 . rw [h1]
   exact (heap_set_ne (by show K.D≠B;exact fun e=>h.ro.BD e.symm) u).trans h.data
 . rw [h3]
   exact zaf h.out (fun k hk=>heap_set_ne (fun e=>h.oB (by rw [hk];exact congrArg some e)) u)
theorem stop_any (B base:Nat) (cx:Cx) (K:Wk) (vo:Value) (s:Sw) (c:Int) (w:World) (h:Wd w B base cx K vo s 0) :
 qc 167 #[pq B 0,qi c] w fun e w'=>e = .panicked (z4u c)/\w.grownBy w' (some B)/\Wd w' B base cx K vo s c:=by
 obtain ⟨ai,ci,hb,_,_⟩:=h.blk;obtain ⟨q0,q1,q2,q3,q4,q5,q6,q7,q8,q9,qz,qf⟩:=zep hb;have HP:=hid (h.put (i:=9) (u:=qi c) (s':=s) (e':=c) (fun _ _=>rfl) rfl rfl rfl h.tl h.cl);clear h hb;go_enter Tryz.func167,Tryz.ntmps167;go_wp2_with fail;exact ⟨rfl,rfl,zdz,HP.out⟩
set_option maxHeartbeats 1600000
theorem Wd.below {w w':World} {B base:Nat} {cx:Cx} {K:Wk} {vo:Value} {s:Sw} {e:Int} (h:Wd w B base cx K vo s e) (hb:qb w w'):Wd w' B base cx K vo s e:=by
 obtain ⟨ai,ci,hB,hi,hc⟩:=h.blk;have hl:=lt_of_heap hB;exact ⟨⟨ai,ci,(hb.block _ hl).trans hB,hi.moves ⟨hb.size,fun b hx A0=>⟨A0,hb.block b hx⟩⟩,hc⟩,(hb.block _ (lt_of_heap h.data)).trans h.data,ownsRow_later h.out hb,h.ro.moves hb.size (fun b h1 _ _=>hb.block b (vah h1 h.ro.zS)),h.cd,h.dl,h.tl,h.tm,h.cl,h.ol⟩
theorem bd (w:World) (m:Nat):qb w (w.drewN m):=zcz (Below.refl _ _) m
theorem tick_any (B base:Nat) (cx:Cx) (K:Wk) (vo:Value) (s:Sw) (w:World) (h:Wd w B base cx K vo s 0) :
 qc 166 #[pq B 0] w fun e w'=>Sr z8a B base cx K w vo (ziw cx.lim s) e w':=by
 obtain ⟨ai,ci,hb,_,_⟩:=h.blk;obtain ⟨q0,q1,q2,q3,q4,q5,q6,q7,q8,q9,qz,qf⟩:=zep hb;have SI:=h.tl;have SH:=h.tm;have HW:=hid h;clear h hb
 by_cases ht:s.ticks=cx.lim
 . have HR:Hid (ziw cx.lim s = .stop 3 s):=if_pos ht
   have HS:=hid (fun W (hW:qb w W)=>stop_any B base cx K vo s 3 W (HW.out.below hW))
   have QI:((s.ticks:Int) == (cx.lim:Int))=true:=by rw [ht];simp
   go_enter Tryz.func166,Tryz.ntmps166;go_wp2_with fail
   go_quiet ((fail))
   go_wp2_with fail;refine (HS.out _ (bd w _)).mono ?_;rintro e w1 ⟨rfl,hg,hw⟩;exact ⟨rfl,vo,(Fm.below (bd w _)).trans (Fm.grown hg),Or.inr ⟨3,s,HR.out,rfl,hw⟩⟩
 . have HR:Hid (ziw cx.lim s = .ok () { s with ticks:=s.ticks+1 }):=if_neg ht
   have QI:((s.ticks:Int) == (cx.lim:Int))=false:=by rw [beq_eq_false_iff_ne];omega
   have HP:=hid (fun W (hW:qb w W)=>(HW.out.below hW).put (i:=7) (u:=qi ((s.ticks:Int)+1)) (s':={ s with ticks:=s.ticks+1 }) (e':=0) (fun _ _=>rfl) rfl rfl rfl (by show s.ticks+1<=cx.lim;omega) HW.out.cl);go_enter Tryz.func166,Tryz.ntmps166;go_wp2_with fail
   go_quiet ((fail))
   go_wp2_with fail;go_end0;exact ⟨vo,(Fm.below (bd w _)).trans (Fm.grown zdz),Or.inl ⟨(),_,HR.out,rfl,HP.out _ (bd w _)⟩⟩
end Go.Proofs.YtndkhgakfodldaaGreatDoor

namespace Go.Proofs.YtndkhgakfodldaaGreatDoor
set_option maxRecDepth 100000
open Go.RowKit Go.Maps Go.WideMaps
set_option linter.unusedSimpArgs false
set_option linter.unusedVariables false
theorem zyy:∀ l:List (L8),Fx.zfk l=false↔l.Nodup:=by
 apply Fx.zdx
 . exact ⟨fun _=>.nil,fun _=>rfl⟩
 . intro l s ih
   rw [Fx.zhc,vas,ih,decide_eq_false_iff_not,vdh]
   constructor
   . rintro ⟨h1,h2⟩
     refine ⟨h1,by simp,fun a ha b hb e=>?_⟩;rw [vcc.1 hb] at e;exact h2 (e ▸ ha)
   . rintro ⟨h1,_,h2⟩
     exact ⟨h1,fun hs=>h2 s hs s (by simp) rfl⟩
set_option maxHeartbeats 12800000
theorem zt4 {α:Type} [DecidableEq α] (l:List α):l.Nodup↔∀ i (h:i<l.length),l[i] ∉ l.take i:=by
 rw [vcz,List.pairwise_iff_getElem]
 constructor
 . intro h i hi hm
   obtain ⟨k,hk,e⟩:=vay hm;rw [vbg] at hk;rw [vdg] at e;exact h k i (by omega) hi (by omega) e
 . intro h i j hi hj T8 e
   exact h j hj (by rw [← e];exact List.mem_iff_getElem.2 ⟨i,by rw [vbg];omega,by rw [vdg]⟩)
theorem zsd (l:List ByteArray):(Fx.zbf l).Nodup↔l.Nodup:=by
 unfold Fx.zbf;rw [vcz,vcz,List.pairwise_map]
 constructor
 . intro h;exact h.imp (fun hn e=>hn (by rw [e]))
 . intro h;exact h.imp (fun hn e=>hn (zhn e))
def nmB (s:ByteArray):Bool:=Lx.zbt s.data.toList
theorem zyz (o:Ob):zdi o=((o.name :: o.uses).all nmB && !Fx.zfk (Fx.zbf (o.name :: o.uses))):=by
 rw [vcj]
 have hd:(!Fx.zfk (Fx.zbf (o.name :: o.uses)))=true↔(o.name :: o.uses).Nodup:=by
  rw [vdz,zyy,zsd]
 rw [vab,hd,vdp,vcy,vab,var];unfold zdi;rw [vab,zak]
 have hu:∀ i (h:i<o.uses.length),zk7 o i=true↔(nmB o.uses[i]=true/\o.uses[i]≠o.name/\o.uses[i] ∉ o.uses.take i):=fun i h=>by
  unfold zk7;rw [vac h];simp only [vab,vdz,decide_eq_false_iff_not];rw [show (Go.Lib.containsS (o.uses.take i) o.uses[i]=false)↔o.uses[i] ∉ o.uses.take i from by rw [← Go.Lib.containsS_iff];simp]
  rfl
 constructor
 . rintro ⟨h1,h2⟩
   refine ⟨⟨h1,fun s hs=>?_⟩,fun hm=>?_,(zt4 o.uses).2 fun i hi=>((hu i hi).1 (h2 i hi)).2.2⟩
   . obtain ⟨k,hk,rfl⟩:=vay hs
     exact ((hu k hk).1 (h2 k hk)).1
   . obtain ⟨k,hk,e⟩:=vay hm
     exact ((hu k hk).1 (h2 k hk)).2.1 e
 . rintro ⟨⟨h1,h2⟩,h3,h4⟩
   refine ⟨h1,fun i hi=>(hu i hi).2 ⟨h2 _ (vag hi),fun e=>h3 (e ▸ vag hi),(zt4 o.uses).1 h4 i hi⟩⟩
theorem z4v {w:World} {base g:Nat} {x:ByteArray} (h:w.heap[g]? = some (.cells #[.string x] 9)) (hb:base<=g):w.ownsRow base 9 1 (.slice (some (qa g 0)) 1 1) 1 (strV [x]):=
 ⟨rfl,Or.inr ⟨g,1,#[.string x],rfl,hb,h,vaa _,by decide,rfl,rfl⟩⟩
theorem z4w {o:Ob} (hm:zfn o=false) (h:(zdi o&&(zcp o&&zdj o))=false):oChk o=1:=by
 unfold oChk;rw [hm,h]
 rfl
theorem wi (n lo hi:Int) (b:Bool) (h:(decide (lo<=n)&&decide (n<=hi))=b) (w:World):qc 63 #[qi n,qi lo,qi hi] w fun e w'=>e = .returned (.bool b)/\w'=w:=by
 rw [← h];exact zc5 n lo hi w
def inJ (n lo hi:Int):Bool:=decide (lo<=n)&&decide (n<=hi)
theorem z4x (n lo hi:Int) (w:World):qc 63 #[qi n,qi lo,qi hi] w fun e w'=>e = .returned (.bool (inJ n lo hi))/\w'=w:=zc5 n lo hi w
theorem zt5 {o:Ob} {k:Nat} {fk fm:Int} (hk:k<o.code.length) (hc:o.code.length<=2048):zv0 o ⟨k,fk,fm⟩=true↔((1<=fk/\fk<=3)/\(0<=fm/\fm<=o.uses.length)/\(0<=o.code[k].a/\o.code[k].a<=2048)/\(fk=1->fm=0/\o.code[k].a<=o.code.length)):=by
 have ha:aAt o (k:Int)=o.code[k].a:=by unfold aAt;rw [vbp,vac hk]
 unfold zv0 okF;simp only [ha];generalize o.code[k].a=ca
 by_cases h1:fk=1
 . subst h1
   simp only [if_true,vab,decide_eq_true_eq]
   constructor
   . rintro ⟨x1,x2,x3,x4⟩
     exact ⟨by omega,by omega,by omega,fun _=>by omega⟩
   . rintro ⟨x1,x2,x3,x4⟩
     have x5:=x4 trivial;omega
 . rw [if_neg h1]
   by_cases h2:fk=2\/fk=3
   . rw [if_pos h2]
     simp only [vab,decide_eq_true_eq]
     constructor
     . rintro ⟨x1,x2,x3,x4⟩
       exact ⟨by omega,by omega,by omega,fun e=>absurd e h1⟩
     . rintro ⟨x1,x2,x3,x4⟩
       clear x4;omega
   . rw [if_neg h2]
     constructor
     . intro h;cases h
     . rintro ⟨x1,x2,x3,x4⟩;clear x4;omega
theorem inb {n lo hi:Int} (h1:lo<=n) (h2:n<=hi):(decide (lo<=n)&&decide (n<=hi))=true:=by rw [decide_eq_true h1,decide_eq_true h2];rfl
theorem zvn {n lo hi:Int} (h:¬ (lo<=n/\n<=hi)):(decide (lo<=n)&&decide (n<=hi))=false:=by
 rw [vcx,decide_eq_false_iff_not,decide_eq_false_iff_not];omega
theorem zkx (o:Ob) (x1:OA) (y1:Nat) (x3:OA) (y3:Nat) (x4:OA) (y4:Nat) (x5:OA) (y5:Nat) (w:World) (hO:OvAt w o x1 x3 x4 x5) :
 qc 34 #[.agg #[.string o.name,.slice x1 o.uses.length y1,qi o.data,.slice x3 o.code.length y3,.slice x4 o.fixes.length y4,.slice x5 o.entries.length y5,qi o.main]] w fun e w'=>e = .returned (qi (oChk o))/\qb w w':=by
 have b1:=hO.uses.bound;have b3:=hO.code.bound;have b4:=hO.fixes.bound;have b5:=hO.entries.bound;have hX:=heap_newP w (kzD o.name x1 o.uses.length y1 o.data x3 o.code.length y3 x4 o.fixes.length y4 x5 o.entries.length y5 o.main);have Di:=al1 w (kzD o.name x1 o.uses.length y1 o.data x3 o.code.length y3 x4 o.fixes.length y4 x5 o.entries.length y5 o.main);generalize hW:w.alloc (kzD o.name x1 o.uses.length y1 o.data x3 o.code.length y3 x4 o.fixes.length y4 x5 o.entries.length y5 o.main)=W0 at *;have HX:=hid hX;have HO:=hid (hO.later Di);have Aw:=hid Di;have HM:Hid (zfn o=(decide (3<o.uses.length)||(decide (6<o.entries.length)||(decide (o.code.length<1)||decide (2048<o.code.length))))):=rfl;have C3:=hid (fun (h:zfn o=true)=>(by unfold oChk;rw [h];rfl:oChk o=2));obtain ⟨q0,q1,q2,q3,q4,q5,q6,qz⟩:=zaj hX;clear hO hX Di
 by_cases t1:3<o.uses.length
 . have HR:=hid (C3.out (by rw [HM.out,decide_eq_true t1];rfl))
   have CV:(3:Int)<o.uses.length:=by omega
   go_enter Tryz.func34,Tryz.ntmps34;go_wp2_with fail;go_ret;exact ⟨by rw [HR.out];first | done | rfl,Aw.out⟩
 by_cases t2:6<o.entries.length
 . have HR:=hid (C3.out (by rw [HM.out,decide_eq_true t2];simp))
   have CV:¬ (3:Int)<o.uses.length:=by omega
   have Dr:(6:Int)<o.entries.length:=by omega
   go_enter Tryz.func34,Tryz.ntmps34;go_wp2_with fail;go_ret;exact ⟨by rw [HR.out];first | done | rfl,Aw.out⟩
 have CV:¬ (3:Int)<o.uses.length:=by omega
 have Dr:¬ (6:Int)<o.entries.length:=by omega
 by_cases t3:1<=o.code.length/\o.code.length<=2048
 case neg=>
  have HR:=hid (C3.out (by rw [HM.out];simp only [vef,decide_eq_true_eq];omega));have L3:=hid (fun W=>wi (o.code.length:Int) 1 2048 false (zvn (by omega)) W);go_enter Tryz.func34,Tryz.ntmps34;go_wp2_with fail;refine (L3.out _).mono ?_;rintro e w' ⟨rfl,rfl⟩;go_wp2_with fail;go_ret;exact ⟨by rw [HR.out];first | done | rfl,Aw.out⟩
 have Li:Hid (zfn o=false):=by show _=_;rw [HM.out];simp only [vas,decide_eq_false_iff_not];omega
 have HF:=hid (fun (h:(zdi o&&(zcp o&&zdj o))=false)=>z4w Li.out h);have L3:=hid (fun W=>wi (o.code.length:Int) 1 2048 true (inb (by omega) (by omega)) W)
 obtain ⟨T,hT⟩:∃ T:Int,T=(o.code.length:Int) - 1:=⟨_,rfl⟩
 have QP:IntKind.i64.wrap ((o.code.length:Int) - 1)=T:=by rw [hT];simp only [IntKind.wrap,IntKind.bits,IntKind.signed];simp;omega
 have HT:=hid hT;clear t1 t2 HM C3 hT;go_enter Tryz.func34,Tryz.ntmps34;go_wp2_with fail;refine (L3.out _).mono ?_;rintro e w' ⟨rfl,rfl⟩;obtain ⟨v4,w4,hr4,ho4,hg4⟩:=zb3 w'.heap.size 22 (.slice (some (qa w'.heap.size 0)) 1 1) 1 (strV [o.name]) (z4v (heap_newP w' (.cells #[.string o.name] 9)) (vaa _)) o.uses x1 y1 (zc9 (HO.out.later (al1 w' (.cells #[.string o.name] 9))).uses).1 (by omega) (by simp);have Ah:Below w'.heap.size w' w4:=(al1 w' _).grown hg4 (by simp) (fun k hk=>by simp only [Value.ownBlock,vbf] at hk;omega);rw [show strV [o.name]++strV o.uses=strV (o.name :: o.uses) from rfl,show 1+o.uses.length=(o.name :: o.uses).length from by simp;omega] at ho4;obtain ⟨a4,c4,rfl,hS4⟩:=zhm ho4;have AP:=hid hr4;have An:=hid Ah;have OY:=hid hS4
 have RN:Hid (∀ s ∈ o.name :: o.uses,s.size<=maxLen):=fun s hs=>by
  rcases vby.1 hs with rfl | hs
  . exact HO.out.wn
  . exact (zc9 HO.out.uses).2 s hs
 have Gh:=hid (zyz o);have JP:=hid (Fx.zqf a4 c4 (o.name :: o.uses))
 have F0:(o.name :: o.uses).length<=4:=by simp;omega
 clear hr4 Ah ho4 hg4 hS4;generalize o.name :: o.uses=ns at *
 go_wp2_with (at_builtin;refine Lib.wpList_append_run _ rfl _ _ _ _ rfl _ _ rfl rfl _ w4 AP.out ?_)
 clear QP hW L3 AP
 go_loopw [5] (fun i wr=>∃ j:Nat,j<=ns.length/\i=qi j/\(ns.take j).all nmB=true/\wr=w4) (fun i _=>ns.length - (intOf i).toNat)
 case atStart=>exact ⟨0,vae _,rfl,rfl,rfl⟩
 case round=>
  obtain ⟨j,hj,rfl,A6,rfl⟩:=hrel;have HL:=hid A6;clear A6
  by_cases A0:j<ns.length
  . obtain ⟨b,off,rfl,Au,c0⟩:=OY.out.place A0
    have Gg:=hid (zue ns[j] wr (RN.out _ (vag A0)));have HA:=hid (fun (h:nmB ns[j]=true)=>(by rw [all_snoc ns nmB j A0,HL.out,h];rfl:(ns.take (j+1)).all nmB=true));have HR:=hid (fun (h:nmB ns[j]=false)=>HF.out (by rw [Gh.out,all_not ns nmB j A0 h];rfl));unfold nmB at HA HR;generalize ns[j]=x at *;go_wp2_with fail;refine Gg.out.mono ?_;rintro e w5 ⟨rfl,rfl⟩
    cases hn:Lx.zbt x.data.toList with
    | false=>
      have B4:=hid (HR.out hn);go_wp2_with fail;go_ret;exact ⟨by rw [B4.out];first | done | rfl,thenB Aw.out An.out⟩
    | true=>
      have Ss:=hid (HA.out hn);go_wp2_with fail;go_roundw
      case rel=>exact ⟨j+1,by omega,by go_num,Ss.out,by first | rfl | trivial⟩
      case measure=>simp [intOf];omega
  . have HA : Hid (ns.all nmB=true):=zci HL.out A0
    have K7:Hid (zdi o = !Fx.zfk (Fx.zbf ns)):=by show _=_;rw [Gh.out,HA.out];rfl
    go_wp2_with fail;refine (JP.out wr OY.out (by omega)).mono ?_;rintro e w5 ⟨rfl,Aq⟩;have Ar:=hid (thenB An.out Aq);have Bp:=hid (thenB Aw.out Ar.out);clear Aq q0 q1 q2 q3 q4 q5 q6 qz;obtain ⟨q0,q1,q2,q3,q4,q5,q6,qz⟩:=zaj (za8 HX.out Ar.out)
    cases hd:Fx.zfk (Fx.zbf ns) with
    | true=>
      have HR:=hid (HF.out (by rw [K7.out,hd];rfl));go_wp2_with fail;go_ret;exact ⟨by rw [HR.out];first | done | rfl,Bp.out⟩
    | false=>
    have K6:Hid (zdi o=true):=by show _=_;rw [K7.out,hd];rfl
    have Eb:=hid (fun (h:(zcp o&&zdj o)=false)=>HF.out (by rw [K6.out,h];rfl));clear HF Gh K7 hd
    by_cases d1:0<=o.data/\o.data<=512
    case neg=>
     have HR:=hid (Eb.out (by rw [show zcp o=false from by unfold zcp zos;rw [decide_eq_false d1];simp];rfl));have JM:=hid (fun W=>wi o.data 0 512 false (zvn d1) W);clear d1;go_wp2_with fail;refine (JM.out _).mono ?_;rintro e w6 ⟨rfl,rfl⟩;go_wp2_with fail;go_ret;exact ⟨by rw [HR.out];first | done | rfl,Bp.out⟩
    have JM:=hid (fun W=>wi o.data 0 512 true (inb d1.1 d1.2) W)
    by_cases d2:0<=o.main/\o.main<=T
    case neg=>
     have HR:=hid (Eb.out (by rw [show zcp o=false from by unfold zcp zos zbk;rw [decide_eq_false (p:=0<=o.main/\o.main<o.code.length) (by have:=HT.out;omega)];simp];rfl));have L2:=hid (fun W=>wi o.main 0 T false (zvn d2) W);clear d1 d2;go_wp2_with fail;refine (JM.out _).mono ?_;rintro e w6 ⟨rfl,rfl⟩;go_wp2_with fail;refine (L2.out _).mono ?_;rintro e w6 ⟨rfl,rfl⟩;go_wp2_with fail;go_ret;exact ⟨by rw [HR.out];first | done | rfl,Bp.out⟩
    have L2:=hid (fun W=>wi o.main 0 T true (inb d2.1 d2.2) W)
    have Ko:Hid (zos o=true):=by show _=_;unfold zos zbk;rw [decide_eq_true d1,decide_eq_true (p:=0<=o.main/\o.main<o.code.length) (by have:=HT.out;omega)];rfl
    clear d1 d2;go_wp2_with fail;refine (JM.out _).mono ?_;rintro e w6 ⟨rfl,rfl⟩;go_wp2_with fail;refine (L2.out _).mono ?_;rintro e w6 ⟨rfl,rfl⟩;go_wp2_with fail;clear JM L2;have E7:=hid (HO.out.later Ar.out)
    go_loopw [6] (fun i wr=>∃ j:Nat,j<=o.code.length/\i=qi j/\(∀ k,k<j->z2x o k=true)/\wr=w6) (fun i _=>o.code.length - (intOf i).toNat)
    case atStart=>exact ⟨0,vae _,rfl,fun k hk=>absurd hk (vbe k),rfl⟩
    case round =>
     obtain ⟨j,hj,rfl,A6,rfl⟩:=hrel;have HL:=hid A6;clear A6
     by_cases A0:j<o.code.length
     . obtain ⟨b3,off3,rfl,hbl3,c0,_,_,_,_,_⟩:=E7.out.code.gi j A0
       have HE:Hid (z2x o j=opB o.code[j]):=by show _=_;unfold z2x;rw [vac A0]
       have Cu:=hid (fun (h:opB o.code[j]=false)=>Eb.out (by rw [show zcp o=false from by unfold zcp;rw [za1 A0 (HE.out.trans h)];rfl];rfl));have G9:=hid (fun (h:opB o.code[j]=true)=>zbj HL.out (HE.out.trans h));generalize o.code[j]=p at *
       by_cases t:1<=p.op/\p.op<=22
       case neg=>
        have HR:=hid (Cu.out (decide_eq_false t));have Hc:=hid (fun W=>wi p.op 1 22 false (zvn t) W);clear t;go_wp2_with fail;refine (Hc.out _).mono ?_;rintro e w7 ⟨rfl,rfl⟩;go_wp2_with fail;go_ret;exact ⟨by rw [HR.out];first | done | rfl,Bp.out⟩
       have EL:=hid (G9.out (decide_eq_true t));have Hc:=hid (fun W=>wi p.op 1 22 true (inb t.1 t.2) W);clear t;go_wp2_with fail;refine (Hc.out _).mono ?_;rintro e w7 ⟨rfl,rfl⟩;go_wp2_with fail;go_roundw
       case rel=>exact ⟨j+1,by omega,by go_num,EL.out,by first | rfl | trivial⟩
       case measure=>simp [intOf];omega
     . obtain rfl : j = o.code.length:=by omega
       have Gn:Hid (zcp o=ze1 o.entries.length (zk6 o)):=by show _=_;unfold zcp;rw [zak.2 HL.out,Ko.out];simp
       go_wp2_with fail
       go_loopw [7] (fun i Lw=>∃ j:Nat,j<=o.entries.length/\i=qi j/\(∀ k,k<j->zk6 o k=true)/\Lw=wr) (fun i _=>o.entries.length - (intOf i).toNat)
       case atStart=>exact ⟨0,vae _,rfl,fun k hk=>absurd hk (vbe k),rfl⟩
       case round =>
        obtain ⟨j,hj,rfl,A6,rfl⟩:=hrel;have HL:=hid A6;clear A6
        by_cases A0:j<o.entries.length
        . obtain ⟨TK,off5,rfl,hbl5,c0,_⟩:=E7.out.entries.num j A0
          have HE:Hid (zk6 o j=zbk o o.entries[j]):=by show _=_;unfold zk6;rw [vac A0]
          have Cu:=hid (fun (h:zbk o o.entries[j]=false)=>Eb.out (by rw [Gn.out,za1 A0 (HE.out.trans h)];rfl));have G9:=hid (fun (h:zbk o o.entries[j]=true)=>zbj HL.out (HE.out.trans h));generalize o.entries[j]=p at *
          by_cases t:0<=p/\p<=T
          case neg=>
           have HR:=hid (Cu.out (decide_eq_false (by have:=HT.out;omega)));have Hc:=hid (fun W=>wi p 0 T false (zvn t) W);clear t;go_wp2_with fail;refine (Hc.out _).mono ?_;rintro e w7 ⟨rfl,rfl⟩;go_wp2_with fail;go_ret;exact ⟨by rw [HR.out];first | done | rfl,Bp.out⟩
          have EL:=hid (G9.out (decide_eq_true (by have:=HT.out;omega)));have Hc:=hid (fun W=>wi p 0 T true (inb t.1 t.2) W);clear t;go_wp2_with fail;refine (Hc.out _).mono ?_;rintro e w7 ⟨rfl,rfl⟩;go_wp2_with fail;go_roundw
          case rel=>exact ⟨j+1,by omega,by go_num,EL.out,by first | rfl | trivial⟩
          case measure=>simp [intOf];omega
        . obtain rfl : j=o.entries.length:=by omega
          have Bh:Hid (zcp o=true):=by show _=_;rw [Gn.out,zak.2 HL.out]
          have Km:=hid (fun (h:zdj o=false)=>Eb.out (by rw [Bh.out,h];rfl));have RL:=hid (fun (h:zdj o=true)=>(by unfold oChk;rw [Li.out,K6.out,Bh.out,h];rfl:oChk o=0));clear q0 q1 q2 q3 q4 q5 q6 qz;have L1:=hid (za8 HX.out Ar.out);have D2:Hid (∀ n lo hi W,qc 63 #[qi n,qi lo,qi hi] W fun e w'=>e = .returned (.bool (inJ n lo hi))/\w'=W):=z4x;have qz:=lt_of_heap L1.out;obtain ⟨q0,q1,q2,q3,q4,q5,q6,_⟩:=zaj L1.out;go_wp2_with fail;clear q0 q1 q2 q3 q4 q5 q6 qz;generalize hV:wr=V at *
          go_loopw [8] (fun i Lw=>∃ j:Nat,j<=o.fixes.length/\i=qi j/\(∀ k,k<j->zf3 o k=true)/\qb V Lw) (fun i _=>o.fixes.length - (intOf i).toNat)
          case atStart=>exact ⟨0,vae _,rfl,fun k hk=>absurd hk (vbe k),Below.refl _ _⟩
          case round =>
           obtain ⟨j,hj,rfl,A6,hb⟩:=hrel;have HL:=hid A6;have C9:=hid hb;have DO:=hid (thenB Bp.out hb);obtain ⟨q0,q1,q2,q3,q4,q5,q6,_⟩:=zaj (za8 L1.out hb);have qz:=lt_of_heap (za8 L1.out hb);clear A6 hb
           by_cases A0:j<o.fixes.length
           . obtain ⟨TL,off4,rfl,hbl4,f0,f1,f2,_,_,_⟩:=(E7.out.later C9.out).fixes.gf j A0
             have HE:Hid (zf3 o j=(decide (lastAt o j<o.fixes[j].at_)&&(zbk o o.fixes[j].at_&&zv0 o o.fixes[j]))):=by show _=_;unfold zf3;rw [vac A0]
             have Cu:=hid (fun (h:zf3 o j=false)=>Km.out (by unfold zdj;exact za1 A0 h));have G9:=hid (fun (h:zf3 o j=true)=>zbj HL.out h)
             cases j with
             | zero =>
               rw [show ((0:Nat):Int)=0 from rfl];generalize hf:o.fixes[0]=f at *;obtain ⟨fa,fk,fm⟩:=f;simp only [vbk,vbs] at f0 f1 f2 hbl4;simp only at HE;clear hf
               by_cases tA:0<=fa/\fa<=T
               case neg=>
                have HR:=hid (Cu.out (by rw [HE.out,show zbk o fa=false from decide_eq_false (by have:=HT.out;omega)];simp));have hA:inJ fa 0 T=false:=zvn tA;clear tA
                as_aux_lemma=>
                 go_wp2_with fail
                 go_quiet ((go_at_call 63;exact Calls.quiet_of_same (D2.out _ _ _ _)))
                 go_wp2_with fail;go_ret;exact ⟨by rw [HR.out];first | done | rfl,thenB DO.out (zcz (al1 _ _) _)⟩
               have hA:inJ fa 0 T=true:=inb tA.1 tA.2
               obtain ⟨k,hk⟩:∃ k:Nat,fa=k:=⟨fa.toNat,by omega⟩
               have Ef:k<o.code.length:=by have:=HT.out;omega
               have FJ:Hid (zbk o fa=true):=decide_eq_true (by have:=HT.out;omega);clear tA;subst hk
               have Bv:Hid (zf3 o 0=zv0 o ⟨k,fk,fm⟩):=by show _=_;rw [HE.out,FJ.out,decide_eq_true (p:=lastAt o 0<(k:Int)) (by show (-1:Int)<k;omega)];rfl
               obtain ⟨b3,off3,rfl,hbl3,_,a1,_,_,_,_⟩:=(E7.out.later C9.out).code.gi k Ef;have BL:=hid (zt5 (o:=o) (fk:=fk) (fm:=fm) Ef (by omega));generalize o.code[k].a=ca at *
               by_cases tC:1<=fk/\fk<=3
               case neg=>
                have HR:=hid (Cu.out (Bv.out.trans (vbr.2 (fun h=>tC (BL.out.1 h).1))));have hC:inJ fk 1 3=false:=zvn tC;clear tC
                as_aux_lemma=>
                 go_wp2_with fail
                 go_quiet ((go_at_call 63;exact Calls.quiet_of_same (D2.out _ _ _ _)))
                 go_wp2_with fail;go_ret;exact ⟨by rw [HR.out];first | done | rfl,thenB DO.out (zcz (al1 _ _) _)⟩
               have hC:inJ fk 1 3=true:=inb tC.1 tC.2
               by_cases tD:0<=fm/\fm<=o.uses.length
               case neg=>
                have HR:=hid (Cu.out (Bv.out.trans (vbr.2 (fun h=>tD (BL.out.1 h).2.1))));have hD:inJ fm 0 (o.uses.length:Int)=false:=zvn tD;clear tC tD
                as_aux_lemma=>
                 go_wp2_with fail
                 go_quiet ((go_at_call 63;exact Calls.quiet_of_same (D2.out _ _ _ _)))
                 go_wp2_with fail;go_ret;exact ⟨by rw [HR.out];first | done | rfl,thenB DO.out (zcz (al1 _ _) _)⟩
               have hD:inJ fm 0 (o.uses.length:Int)=true:=inb tD.1 tD.2
               by_cases tE:0<=ca/\ca<=2048
               case neg=>
                have HR:=hid (Cu.out (Bv.out.trans (vbr.2 (fun h=>tE (BL.out.1 h).2.2.1))));have hE:inJ ca 0 2048=false:=zvn tE;clear tC tD tE
                as_aux_lemma=>
                 go_wp2_with fail
                 go_quiet ((go_at_call 63;exact Calls.quiet_of_same (D2.out _ _ _ _)))
                 go_wp2_with fail;go_ret;exact ⟨by rw [HR.out];first | done | rfl,thenB DO.out (zcz (al1 _ _) _)⟩
               have hE:inJ ca 0 2048=true:=inb tE.1 tE.2
               by_cases tG:fk=1
               . by_cases tM:fm=0
                 . by_cases tL:ca<=o.code.length
                   . have EL:=hid (G9.out (Bv.out.trans (BL.out.2 ⟨tC,tD,tE,fun _=>⟨tM,tL⟩⟩)))
                     have Ly:¬ (o.code.length:Int)<ca:=by omega
                     subst tG;subst tM;clear tC tD tE tL
                     as_aux_lemma=>
                      go_wp2_with fail
                      go_quiet ((go_at_call 63;exact Calls.quiet_of_same (D2.out _ _ _ _)))
                      go_wp2_with fail;go_roundw
                      case rel=>exact ⟨0+1,by omega,by go_num,EL.out,thenB C9.out (zcz (al1 _ _) _)⟩
                      case measure=>simp [intOf];omega
                   . have HR:=hid (Cu.out (Bv.out.trans (vbr.2 (fun h=>tL ((BL.out.1 h).2.2.2 tG).2))))
                     have Ly:(o.code.length:Int)<ca:=by omega
                     subst tG;subst tM;clear tC tD tE tL
                     as_aux_lemma=>
                      go_wp2_with fail
                      go_quiet ((go_at_call 63;exact Calls.quiet_of_same (D2.out _ _ _ _)))
                      go_wp2_with fail;go_ret;exact ⟨by rw [HR.out];first | done | rfl,thenB DO.out (zcz (al1 _ _) _)⟩
                 . have HR:=hid (Cu.out (Bv.out.trans (vbr.2 (fun h=>tM ((BL.out.1 h).2.2.2 tG).1))))
                   have GX:(fm != 0)=true:=by simpa using tM
                   have QU:(fm == 0)=false:=by simpa using tM
                   subst tG;clear tC tD tE
                   as_aux_lemma=>
                    go_wp2_with fail
                    go_quiet ((go_at_call 63;exact Calls.quiet_of_same (D2.out _ _ _ _)))
                    go_wp2_with fail;go_ret;exact ⟨by rw [HR.out];first | done | rfl,thenB DO.out (zcz (al1 _ _) _)⟩
               . have EL:=hid (G9.out (Bv.out.trans (BL.out.2 ⟨tC,tD,tE,fun e=>absurd e tG⟩)))
                 have dG:decide (fk=1)=false:=decide_eq_false tG
                 have Rf:(fk == 1)=false:=by simpa using tG
                 clear tC tD tE tG
                 as_aux_lemma=>
                  go_wp2_with fail
                  go_quiet ((go_at_call 63;exact Calls.quiet_of_same (D2.out _ _ _ _)))
                  go_wp2_with fail;go_roundw
                  case rel=>exact ⟨0+1,by omega,by go_num,EL.out,thenB C9.out (zcz (al1 _ _) _)⟩
                  case measure=>simp [intOf];omega
             | succ j =>
               obtain ⟨_,_,he,_,g0,_,_,_,_,_⟩:=(E7.out.later C9.out).fixes.gf j (by omega);cases he
               have Hu:Hid (lastAt o (j+1)=o.fixes[j].at_):=by show (match o.fixes[j]? with | some f=>f.at_ | none=>-1)=_;rw [vac (by omega)]
               generalize o.fixes[j+1]=f at *;generalize o.fixes[j]=g at *;obtain ⟨fa,fk,fm⟩:=f;simp only at f0 f1 f2 HE
               by_cases tA:0<=fa/\fa<=T
               case neg=>
                have HR:=hid (Cu.out (by rw [HE.out,show zbk o fa=false from decide_eq_false (by have:=HT.out;omega)];simp));have hA:inJ fa 0 T=false:=zvn tA;clear tA
                as_aux_lemma=>
                 go_wp2_with fail
                 go_quiet ((go_at_call 63;exact Calls.quiet_of_same (D2.out _ _ _ _)))
                 go_wp2_with fail;go_ret;exact ⟨by rw [HR.out];first | done | rfl,thenB DO.out (zcz (al1 _ _) _)⟩
               have hA:inJ fa 0 T=true:=inb tA.1 tA.2
               obtain ⟨k,hk⟩:∃ k:Nat,fa=k:=⟨fa.toNat,by omega⟩
               have Ef:k<o.code.length:=by have:=HT.out;omega
               have FJ:Hid (zbk o fa=true):=decide_eq_true (by have:=HT.out;omega);clear tA;subst hk
               by_cases tB:g.at_<(k:Int)
               case neg=>
                have HR:=hid (Cu.out (by rw [HE.out,Hu.out,decide_eq_false tB];rfl))
                have Sv:(k:Int)<=g.at_:=by omega
                clear tB
                as_aux_lemma=>
                 go_wp2_with fail
                 go_quiet ((go_at_call 63;exact Calls.quiet_of_same (D2.out _ _ _ _)))
                 go_wp2_with fail;go_ret;exact ⟨by rw [HR.out];first | done | rfl,thenB DO.out (zcz (al1 _ _) _)⟩
               have Bv:Hid (zf3 o (j+1)=zv0 o ⟨k,fk,fm⟩):=by show _=_;rw [HE.out,Hu.out,FJ.out,decide_eq_true tB];rfl
               have PH:¬ ((k:Int)<=g.at_):=by omega
               have Su:decide ((k:Int)<=g.at_)=false:=decide_eq_false PH;obtain ⟨b3,off3,rfl,hbl3,_,a1,_,_,_,_⟩:=(E7.out.later C9.out).code.gi k Ef;have BL:=hid (zt5 (o:=o) (fk:=fk) (fm:=fm) Ef (by omega));generalize o.code[k].a=ca at *
               by_cases tC:1<=fk/\fk<=3
               case neg=>
                have HR:=hid (Cu.out (Bv.out.trans (vbr.2 (fun h=>tC (BL.out.1 h).1))));have hC:inJ fk 1 3=false:=zvn tC;clear tC
                as_aux_lemma=>
                 go_wp2_with fail
                 go_quiet ((go_at_call 63;exact Calls.quiet_of_same (D2.out _ _ _ _)))
                 go_wp2_with fail;go_ret;exact ⟨by rw [HR.out];first | done | rfl,thenB DO.out (zcz (al1 _ _) _)⟩
               have hC:inJ fk 1 3=true:=inb tC.1 tC.2
               by_cases tD:0<=fm/\fm<=o.uses.length
               case neg=>
                have HR:=hid (Cu.out (Bv.out.trans (vbr.2 (fun h=>tD (BL.out.1 h).2.1))));have hD:inJ fm 0 (o.uses.length:Int)=false:=zvn tD;clear tC tD
                as_aux_lemma=>
                 go_wp2_with fail
                 go_quiet ((go_at_call 63;exact Calls.quiet_of_same (D2.out _ _ _ _)))
                 go_wp2_with fail;go_ret;exact ⟨by rw [HR.out];first | done | rfl,thenB DO.out (zcz (al1 _ _) _)⟩
               have hD:inJ fm 0 (o.uses.length:Int)=true:=inb tD.1 tD.2
               by_cases tE:0<=ca/\ca<=2048
               case neg=>
                have HR:=hid (Cu.out (Bv.out.trans (vbr.2 (fun h=>tE (BL.out.1 h).2.2.1))));have hE:inJ ca 0 2048=false:=zvn tE;clear tC tD tE
                as_aux_lemma=>
                 go_wp2_with fail
                 go_quiet ((go_at_call 63;exact Calls.quiet_of_same (D2.out _ _ _ _)))
                 go_wp2_with fail;go_ret;exact ⟨by rw [HR.out];first | done | rfl,thenB DO.out (zcz (al1 _ _) _)⟩
               have hE:inJ ca 0 2048=true:=inb tE.1 tE.2
               by_cases tG:fk=1
               . by_cases tM:fm=0
                 . by_cases tL:ca<=o.code.length
                   . have EL:=hid (G9.out (Bv.out.trans (BL.out.2 ⟨tC,tD,tE,fun _=>⟨tM,tL⟩⟩)))
                     have Ly:¬ (o.code.length:Int)<ca:=by omega
                     subst tG;subst tM;clear tC tD tE tL
                     as_aux_lemma=>
                      go_wp2_with fail
                      go_quiet ((go_at_call 63;exact Calls.quiet_of_same (D2.out _ _ _ _)))
                      go_wp2_with fail;go_roundw
                      case rel=>exact ⟨(j+1)+1,by omega,by go_num,EL.out,thenB C9.out (zcz (al1 _ _) _)⟩
                      case measure=>simp [intOf];omega
                   . have HR:=hid (Cu.out (Bv.out.trans (vbr.2 (fun h=>tL ((BL.out.1 h).2.2.2 tG).2))))
                     have Ly:(o.code.length:Int)<ca:=by omega
                     subst tG;subst tM;clear tC tD tE tL
                     as_aux_lemma=>
                      go_wp2_with fail
                      go_quiet ((go_at_call 63;exact Calls.quiet_of_same (D2.out _ _ _ _)))
                      go_wp2_with fail;go_ret;exact ⟨by rw [HR.out];first | done | rfl,thenB DO.out (zcz (al1 _ _) _)⟩
                 . have HR:=hid (Cu.out (Bv.out.trans (vbr.2 (fun h=>tM ((BL.out.1 h).2.2.2 tG).1))))
                   have GX:(fm != 0)=true:=by simpa using tM
                   have QU:(fm == 0)=false:=by simpa using tM
                   subst tG;clear tC tD tE
                   as_aux_lemma=>
                    go_wp2_with fail
                    go_quiet ((go_at_call 63;exact Calls.quiet_of_same (D2.out _ _ _ _)))
                    go_wp2_with fail;go_ret;exact ⟨by rw [HR.out];first | done | rfl,thenB DO.out (zcz (al1 _ _) _)⟩
               . have EL:=hid (G9.out (Bv.out.trans (BL.out.2 ⟨tC,tD,tE,fun e=>absurd e tG⟩)))
                 have dG:decide (fk=1)=false:=decide_eq_false tG
                 have Rf:(fk == 1)=false:=by simpa using tG
                 clear tC tD tE tG
                 as_aux_lemma=>
                  go_wp2_with fail
                  go_quiet ((go_at_call 63;exact Calls.quiet_of_same (D2.out _ _ _ _)))
                  go_wp2_with fail;go_roundw
                  case rel=>exact ⟨(j+1)+1,by omega,by go_num,EL.out,thenB C9.out (zcz (al1 _ _) _)⟩
                  case measure=>simp [intOf];omega
           . obtain rfl:j=o.fixes.length:=by omega
             have HR:=hid (RL.out (by unfold zdj;exact zak.2 HL.out));go_wp2_with fail;go_ret;exact ⟨by rw [HR.out];first | done | rfl,DO.out⟩
end Go.Proofs.YtndkhgakfodldaaGreatDoor
