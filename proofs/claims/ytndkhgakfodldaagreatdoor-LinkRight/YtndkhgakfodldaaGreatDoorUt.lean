import Derived.Test.YtndkhgakfodldaaGreatDoorUr
import Derived.Test.YtndkhgakfodldaaGreatDoorPo
namespace Go.Proofs.YtndkhgakfodldaaGreatDoor
set_option maxRecDepth 100000
set_option maxHeartbeats 1600000
open Go.RowKit Go.Maps Go.WideMaps
set_option linter.unusedSimpArgs false
def zw0:Fc:=⟨⟨#[99,110,116]⟩,[⟨1,3,0,⟨#[107]⟩⟩,⟨2,0,0,⟨#[115,117,109]⟩⟩,⟨3,4,1,⟨#[116]⟩⟩,⟨4,1,0,⟨#[100,111,119,110]⟩⟩]⟩
def yaf (r:Except Int Un):Un:=match r with | .ok u=>u | .error _=>⟨⟨#[]⟩,[],0,[],[]⟩
def ztg:Un:=yaf (zee zow [])
def zth:Un:=yaf (zee zmb [zw0])
theorem z58:zee zow [] = .ok ztg:=by kernel_rfl
theorem z59:zee zmb [zw0] = .ok zth:=by kernel_rfl
theorem EAt.num {w:World} {A:Nat->Prop} {a:OA} {n:Nat} {ds:List D} (h:EAt w A a n ds) (hn:n≠0):∃ b off,a=some (qa b off)/\b<w.heap.size/\A b/\∀ (j:Nat) (k:Int),ds[j]? = some (.int k)->w.cell? ⟨b,off+j,none⟩=some (qi k):=by
 rcases h with h | ⟨b,off,cs,ha,hA,hb,hc,hx⟩
 . exact absurd h hn
 . refine ⟨b,off,ha,hb,hA,fun j k hj=>?_⟩
   obtain ⟨v,hv,hd⟩:=hx.get j _ hj;rw [zo0 hd] at hv;exact hc j _ hv
theorem zti (w:World) :
 qc 57 #[] w fun e w'=>∃ ad cap,e = .returned (.agg #[.string ⟨#[99,110,116]⟩,.slice ad 4 cap])/\DAt w' Tt ad 4 (zgm zw0.items)/\qb w w':=by
 go_enter Tryz.func57,Tryz.ntmps57;go_wp2_with fail
 obtain ⟨W,hW⟩:∃ W,W=allocsC w [(#[.string ⟨#[99,110,116]⟩,.slice (some ⟨w.heap.size+1,0,none⟩) 4 4],30),(#[qi 1,qi 3,qi 0,.string ⟨#[107]⟩,qi 2,qi 0,qi 0,.string ⟨#[115,117,109]⟩,qi 3,qi 4,qi 1,.string ⟨#[116]⟩,qi 4,qi 1,qi 0,.string ⟨#[100,111,119,110]⟩],98)]:=⟨_,rfl⟩
 have hB:qb w W:=by rw [hW];exact zed _ _
 have hD:DAt W Tt (some ⟨w.heap.size+1,0,none⟩) 4 (zgm zw0.items):=by
  rw [hW];refine zb6 (zaw w _ 1 _ _ rfl) ?_ (by decide) (by decide);exact .cons (zdl rfl) (.cons (zdl rfl) (.cons (zdl rfl) (.cons (zeu (by decide)) (.cons (zdl rfl) (.cons (zdl rfl) (.cons (zdl rfl) (.cons (zeu (by decide)) (.cons (zdl rfl) (.cons (zdl rfl) (.cons (zdl rfl) (.cons (zeu (by decide)) (.cons (zdl rfl) (.cons (zdl rfl) (.cons (zdl rfl) (.cons (zeu (by decide)) .nil)))))))))))))))
 refine bodyPost_ret (v:=.agg #[.string ⟨#[99,110,116]⟩,.slice (some ⟨w.heap.size+1,0,none⟩) 4 4]) (by simp [results,Tryz.results57,go_sem]) rfl ⟨some ⟨w.heap.size+1,0,none⟩,4,rfl,?_,?_⟩
 . rw [hW] at hD;exact hD
 . rw [hW] at hB;exact hB
theorem z0d (w:World):qc 55 #[.string z36] w fun e w'=>∃ v a1 c1 a2 c2 a3 c3 a4 c4,e = .returned (.tuple #[v,qi 0])/\MoAt w' Tt zmb v a1 c1 a2 c2 a3 c3 a4 c4/\qb w w':=
 (zzj z36 w (by decide)).mono fun e w' ⟨h,hb⟩=>by
   rcases h with ⟨h,_⟩ | ⟨m,v,a1,c1,a2,c2,a3,c3,a4,c4,hp,_,he,hM⟩
   . rw [zuw] at h;cases h
   . rw [zuw] at hp
     obtain rfl:=vab hp;exact ⟨v,a1,c1,a2,c2,a3,c3,a4,c4,he,hM,hb⟩
set_option maxHeartbeats 12800000
structure Sg (w W:World) (b1 b3 b5:Nat) (a:OA) (cap:Nat) (s:ByteArray) (x1:OA) (n1 y1:Nat) (b2 o2 y2:Nat) (x3:OA) (n3 y3:Nat) (z1:OA) (d1:Nat) (z2:OA) (d2:Nat) (z3:OA) (d3:Nat) (z4:OA) (d4:Nat):Prop where
 below:qb w W
 h1:W.heap[b1]? = some (.cells #[.string ⟨#[99,110,116]⟩,.slice a 4 cap] 30 (0,0))
 its:Fx.zcr W a zw0.items
 fit:Fx.AllFit zw0.items
 h3:W.heap[b3]? = some (.cells #[.string s,.slice x1 n1 y1,qi 5,.slice (some (qa b2 o2)) 1 y2,.slice x3 n3 y3] 42 (0,0))
 l3:b2<W.heap.size
 c3:W.cell? ⟨b2,o2+1,none⟩=some (qi 1)
 h5:W.heap[b5]? = some (.cells #[.string ⟨#[116,111,112]⟩,.slice z1 1 d1,.slice z2 0 d2,.slice z3 0 d3,.slice z4 3 d4] 27 (0,0))
 mo:MoAt W Tt zmb (.agg #[.string ⟨#[116,111,112]⟩,.slice z1 1 d1,.slice z2 0 d2,.slice z3 0 d3,.slice z4 3 d4]) z1 d1 z2 d2 z3 d3 z4 d4
theorem Sg.later {w W W':World} {b1 b3 b5:Nat} {a:OA} {cap:Nat} {s:ByteArray} {x1:OA} {n1 y1 b2 o2 y2:Nat} {x3:OA} {n3 y3:Nat} {z1 z2 z3 z4:OA} {d1 d2 d3 d4:Nat} (h:Sg w W b1 b3 b5 a cap s x1 n1 y1 b2 o2 y2 x3 n3 y3 z1 d1 z2 d2 z3 d3 z4 d4) (hb:qb W W'):Sg w W' b1 b3 b5 a cap s x1 n1 y1 b2 o2 y2 x3 n3 y3 z1 d1 z2 d2 z3 d3 z4 d4:=
 ⟨h.below.trans (hb.mono h.below.size),(hb.block _ (lt_of_heap h.h1)).trans h.h1,h.its.later hb,h.fit,(hb.block _ (lt_of_heap h.h3)).trans h.h3,vah h.l3 hb.size,(hb.cell (p:=⟨b2,o2+1,none⟩) h.l3).trans h.c3,(hb.block _ (lt_of_heap h.h5)).trans h.h5,h.mo.later hb⟩
structure Tg (W:World) (b7:Nat) (s:ByteArray) (x1:OA) (n1 y1:Nat) (d:Int) (x2:OA) (n2 y2 b3 o3 y3:Nat):Prop where
 h7:W.heap[b7]? = some (.cells #[.string s,.slice x1 n1 y1,qi d,.slice x2 n2 y2,.slice (some (qa b3 o3)) 3 y3] 42 (0,0))
 l7:b3<W.heap.size
 n:W.cell? ⟨b3,o3+1,none⟩=some (qi 4)
 m:W.cell? ⟨b3,o3+2,none⟩=some (qi 1)
 at':W.cell? ⟨b3,o3+3,none⟩=some (qi 1)
theorem Tg.later {W W':World} {b7:Nat} {s:ByteArray} {x1:OA} {n1 y1:Nat} {d:Int} {x2:OA} {n2 y2 b3 o3 y3:Nat} (h:Tg W b7 s x1 n1 y1 d x2 n2 y2 b3 o3 y3) (hb:qb W W'):Tg W' b7 s x1 n1 y1 d x2 n2 y2 b3 o3 y3:=
 ⟨(hb.block _ (lt_of_heap h.h7)).trans h.h7,vah h.l7 hb.size,(hb.cell (p:=⟨b3,o3+1,none⟩) h.l7).trans h.n,(hb.cell (p:=⟨b3,o3+2,none⟩) h.l7).trans h.m,(hb.cell (p:=⟨b3,o3+3,none⟩) h.l7).trans h.at'⟩
theorem zpj {w:World} {ad:OA} {cp:Nat} (hD:DAt w Tt ad 4 (zgm zw0.items)) (t:TypeId):DAt (w.alloc (.cells #[.string ⟨#[99,110,116]⟩,.slice ad 4 cp] t)) Tt (some (qa w.heap.size 0)) 1 (z50 [zw0]):=by
 refine zb6 (zaw w [(#[.string ⟨#[99,110,116]⟩,.slice ad 4 cp],t)] 0 _ _ rfl) ?_ (by decide) (by decide);exact .cons (zeu (by decide)) (.cons (hD.moves ⟨by simp,fun b hb _=>⟨trivial,(al1 _ _).block b hb⟩⟩).val .nil)
theorem z0e {w:World} {ad:OA} {cp:Nat} (hD:DAt w Tt ad 4 (zgm zw0.items)) (o:Obj) (t:TypeId):DAt ((w.alloc o).alloc (.cells #[.string ⟨#[99,110,116]⟩,.slice ad 4 cp] t)) Tt (some ⟨w.heap.size+1,0,none⟩) 1 (z50 [zw0]):=by
 have:=zpj (cp:=cp) (hD.moves (w':=w.alloc o) ⟨by simp,fun b hb _=>⟨trivial,(al1 _ _).block b hb⟩⟩) t;simpa using this
theorem z9i {W:World} {b:Nat} {v0 v1 v2 v3 v4:Value} {t:TypeId} (h:W.heap[b]? = some (.cells #[v0,v1,v2,v3,v4] t (0,0))):W.cell? (qa b 0)=some v0/\W.cell? (qa b 1)=some v1/\W.cell? (qa b 2)=some v2/\W.cell? (qa b 3)=some v3/\W.cell? (qa b 4)=some v4:=
 have h3:=zaa h
 ⟨h3.1,h3.2.1,h3.2.2.1,h3.2.2.2.1,h3.2.2.2.2.1⟩
theorem zbn {w w':World} {b:Nat} {x:Obj} (h:w.heap[b]? = some x) (hb:qb w w'):w'.heap[b]? = some x:=(hb.block _ (lt_of_heap h)).trans h
theorem z9j (w:World) (o:Obj):(w.alloc o).drew.heap[w.heap.size]? = some o:=heap_newP w o
theorem z74 (w:World) (o p:Obj):((w.alloc o).alloc p).heap[w.heap.size+1]? = some p:=by simpa using heap_newP (w.alloc o) p
set_option maxHeartbeats 6400000
set_option linter.unusedVariables false
mutual
def D.fineB:D->Bool
 | .int n=>(Lit.int .i64 n).wf
 | .str _=>true
 | .bool _=>true
 | .list n ds=>decide (n<=ds.length)&&(decide (ds.length<=17592186044416)&&zvj ds)
def zvj:List D->Bool
 | []=>true
 | d :: ds=>d.fineB&&zvj ds
end
mutual
theorem z6a:∀ d:D,d.fineB=true->d.fine
 | .int _,h=>by unfold D.fineB at h;unfold D.fine;exact h
 | .str _,_=>by unfold D.fine;trivial
 | .bool _,_=>by unfold D.fine;trivial
 | .list n ds,h=>by
   unfold D.fineB at h;unfold D.fine;simp only [vac,decide_eq_true_eq] at h;exact ⟨h.1,h.2.1,zj5 ds h.2.2⟩
theorem zj5:∀ l:List D,zvj l=true->D.fines l
 | [],_=>by unfold D.fines;trivial
 | d :: ds,h=>by
   unfold zvj at h;unfold D.fines;rw [vac] at h;exact ⟨z6a d h.1,zj5 ds h.2⟩
end
def Uls (w:World) (A:Nat->Prop) (u:Un) (x1 x2 x3:OA):Prop:=DAt w A x1 u.uses.length (zaj u.uses)/\DAt w A x2 u.parts.length (zk7 u.parts)/\DAt w A x3 u.main.length (zdm u.main)
theorem Uls.moves {w w':World} {A A':Nat->Prop} {u:Un} {x1 x2 x3:OA} (h:Uls w A u x1 x2 x3) (m:zad w A w' A'):Uls w' A' u x1 x2 x3:=⟨h.1.moves m,h.2.1.moves m,h.2.2.moves m⟩
theorem z75 {w:World} {A:Nat->Prop} {u:Un} {x1 x2 x3:OA} (hf:D.fines u.ds) (h1:EAt w A x1 u.uses.length (zaj u.uses)) (h2:EAt w A x2 u.parts.length (zk7 u.parts)) (h3:EAt w A x3 u.main.length (zdm u.main)):Uls w A u x1 x2 x3:=by
 simp only [Un.ds,D.fines,D.fine] at hf;obtain ⟨_,⟨a1,a2,a3⟩,_,⟨b1,b2,b3⟩,⟨c1,c2,c3⟩,_⟩:=hf;exact ⟨h1.toD a1 a2 a3,h2.toD b1 b2 b3,h3.toD c1 c2 c3⟩
structure UnIn (w:World) (b:Nat) (u:Un) (x1:OA) (xc1:Nat) (x2:OA) (xc2:Nat) (x3:OA) (xc3:Nat):Prop where
 blk:w.heap[b]? = some (.cells #[.string u.name,.slice x1 u.uses.length xc1,qi u.data,.slice x2 u.parts.length xc2,.slice x3 u.main.length xc3] 42 (0,0))
 ls:Uls w Tt u x1 x2 x3
theorem UnIn.later {w w':World} {b:Nat} {u:Un} {x1 x2 x3:OA} {xc1 xc2 xc3:Nat} (h:UnIn w b u x1 xc1 x2 xc2 x3 xc3) (hb:qb w w'):UnIn w' b u x1 xc1 x2 xc2 x3 xc3:=
 ⟨zbn h.blk hb,h.ls.moves (zad.of_below hb _)⟩
def z4d (u:Un) (w:World) (e:Ending) (w':World):Prop:=∃ x1 xc1 x2 xc2 x3 xc3,e = .returned (.tuple #[.agg #[.string u.name,.slice x1 u.uses.length xc1,qi u.data,.slice x2 u.parts.length xc2,.slice x3 u.main.length xc3],qi 0])/\Uls w' (w.heap.size<=·) u x1 x2 x3/\qb w w'
theorem z4e {m:Mo} {l:List Fc} {u:Un} (hr:zee m l = .ok u) (hf:D.fines u.ds) {w:World} {v:Value} {a1 a2 a3 a4:OA} {c1 c2 c3 c4:Nat} (hM:MoAt w Tt m v a1 c1 a2 c2 a3 c3 a4 c4) {al:OA} (cl:Nat) (hF:DAt w Tt al l.length (z50 l)) :
 qc 21 #[v,.slice al l.length cl] w fun e w'=>z4d u w e w':=
 (ztf m v a1 c1 a2 c2 a3 c3 a4 c4 l al cl w hM hF).mono fun e w' ⟨h,hb⟩=>by
   rw [hr] at h;obtain ⟨x1,y1,x2,y2,x3,y3,he,h1,h2,h3⟩:=h;exact ⟨x1,y1,x2,y2,x3,y3,he,z75 hf h1 h2 h3,hb⟩
theorem Uls.new {w:World} {A:Nat->Prop} {u:Un} {x1 x2 x3:OA} (xc1 xc2 xc3:Nat) (h:Uls w A u x1 x2 x3) (t:TypeId) (ht:t=42):UnIn (w.alloc (.cells #[.string u.name,.slice x1 u.uses.length xc1,qi u.data,.slice x2 u.parts.length xc2,.slice x3 u.main.length xc3] t)) w.heap.size u x1 xc1 x2 xc2 x3 xc3:=by
 subst ht;exact ⟨heap_newP _ _,h.moves ⟨by simp,fun b hb _=>⟨trivial,(al1 _ _).block b hb⟩⟩⟩
theorem Uls.set {w:World} {lo b:Nat} {u:Un} {x1 x2 x3:OA} (xc1 xc2 xc3:Nat) {v0 v1 v2 v3 v4:Value} (h:Uls w (lo<=·) u x1 x2 x3) (hz:w.heap[b]? = some (.cells #[v0,v1,v2,v3,v4] 42)) (hb:b<lo):UnIn (set5 w b (.string u.name) (.slice x1 u.uses.length xc1) (qi u.data) (.slice x2 u.parts.length xc2) (.slice x3 u.main.length xc3)) b u x1 xc1 x2 xc2 x3 xc3:=by
 refine ⟨heap_set (heap_set (heap_set (heap_set (heap_set hz _) _) _) _) _,h.moves ⟨by simp [set5],fun k hk hl=>⟨trivial,?_⟩⟩⟩
 have hn:k≠b:=by omega
 exact (heap_set_ne hn _).trans ((heap_set_ne hn _).trans ((heap_set_ne hn _).trans ((heap_set_ne hn _).trans (heap_set_ne hn _))))
theorem z76 {w:World} {u:Un} {x1 x2 x3:OA} (xc1 xc2 xc3:Nat) (hf:D.fines u.ds) (hn:u.name.size<=maxLen) (h:Uls w Tt u x1 x2 x3):zap w Tt u.ds [.string u.name,.slice x1 u.uses.length xc1,qi u.data,.slice x2 u.parts.length xc2,.slice x3 u.main.length xc3]:=by
 simp only [Un.ds,D.fines,D.fine] at hf;unfold Un.ds;exact .cons (zeu hn) (.cons h.1.val (.cons (zdl hf.2.2.1) (.cons h.2.1.val (.cons h.2.2.val .nil))))
theorem ztj (u t:Un) (hu:zee zow [] = .ok u) (ht:zee zmb [zw0] = .ok t) (GV:D.fines u.ds) (M5:D.fines t.ds) (O4:u.name.size<=maxLen) (O5:t.name.size<=maxLen) (w:World) :
 qc 75 #[] w fun e w'=>∃ a,e = .returned (.slice (some a) 2 2)/\DAt w' Tt (some a) 2 (z20 [u,t])/\qb w w':=by
 have HU:=hid (fun (W:World) (v:Value) (a1:OA) (c1:Nat) (a2:OA) (c2:Nat) (a3:OA) (c3:Nat) (a4:OA) (c4:Nat) (hM:MoAt W Tt zow v a1 c1 a2 c2 a3 c3 a4 c4)=>z4e hu GV hM (al:=none) 0 ⟨vaa _,vag _,Or.inl rfl⟩)
 have HT:Hid (∀ (W:World) (v:Value) (a1:OA) (c1:Nat) (a2:OA) (c2:Nat) (a3:OA) (c3:Nat) (a4:OA) (c4:Nat),MoAt W Tt zmb v a1 c1 a2 c2 a3 c3 a4 c4->∀ (al:OA) (cl:Nat),DAt W Tt al 1 (z50 [zw0])->qc 21 #[v,.slice al 1 cl] W fun e w'=>z4d t W e w'):=fun W v a1 c1 a2 c2 a3 c3 a4 c4 hM al cl hF=>z4e ht M5 hM (l:=[zw0]) cl hF
 have Pq:=hid (And.intro GV O4);have Ps:=hid (And.intro M5 O5);clear hu ht GV M5 O4 O5;go_enter Tryz.func75,Tryz.ntmps75;go_wp2_with fail;refine (zsy _).mono ?_;rintro e w1 ⟨v,a1,c1,a2,c2,a3,c3,a4,c4,rfl,hM,A6⟩;have HM:=hid hM;have A7:=hid A6;clear hM A6;go_wp2_with fail;refine (HU.out _ _ _ _ _ _ _ _ _ _ HM.out).mono ?_;rintro e w2 ⟨x1,xc1,x2,xc2,x3,xc3,rfl,hC,Ab⟩;have HN:=hid (hC.new xc1 xc2 xc3 42 rfl);have Af:=hid (thenB A7.out (thenB Ab (al1 w2 (kzC u.name x1 u.uses.length xc1 u.data x2 u.parts.length xc2 x3 u.main.length xc3))));clear hC Ab HM A7;go_wp2_with fail
 obtain ⟨W2,hW2⟩:∃ W2,W2=w2.alloc (kzC u.name x1 u.uses.length xc1 u.data x2 u.parts.length xc2 x3 u.main.length xc3):=⟨_,rfl⟩
 rw [← hW2] at HN Af ⊢;clear hW2;refine (zsz _).mono ?_;rintro e w5 ⟨rfl,h5⟩
 have OI:qb W2 w5:=by rw [h5];exact Below.refl _ _
 clear h5;go_wp2_with fail;refine (z0d w5).mono ?_;rintro e w6 ⟨u',z1,d1,z2,d2,z3,d3,z4,d4,rfl,hM,AK⟩;have OH:=thenB OI AK;obtain rfl:u' = .agg #[.string ⟨#[116,111,112]⟩,.slice z1 1 d1,.slice z2 0 d2,.slice z3 0 d3,.slice z4 3 d4]:=hM.val;have HM:=hid hM;have Cw:=hid OH;clear hM OH AK OI;go_wp2_with fail
 obtain ⟨W6,hW6⟩:∃ W6,W6=w6.alloc (kzG ⟨#[116,111,112]⟩ z1 1 d1 z2 0 d2 z3 0 d3 z4 3 d4):=⟨_,rfl⟩
 have Mw:qb w6 W6:=by rw [hW6];exact al1 _ _
 have hB:=thenB Cw.out Mw;have JK:=hid (thenB Af.out hB);have JJ:=hid (HN.out.later hB)
 have Hu:Hid (W6.heap[w6.heap.size]? = some (.cells #[.string ⟨#[116,111,112]⟩,.slice z1 1 d1,.slice z2 0 d2,.slice z3 0 d3,.slice z4 3 d4] 27 (0,0))/\MoAt W6 Tt zmb (.agg #[.string ⟨#[116,111,112]⟩,.slice z1 1 d1,.slice z2 0 d2,.slice z3 0 d3,.slice z4 3 d4]) z1 d1 z2 d2 z3 d3 z4 d4):=⟨by rw [hW6];exact heap_newP _ _,HM.out.later Mw⟩
 rw [← hW6];clear hW6 Mw hB Cw Af HM HN
 rename_i K hK
 have TAIL:∀ {W9:World} {b7:Nat} {y1 y2 y3:OA} {EB EA Ez:Nat} {t7 t8 t9 NO NN NM NL NK NJ NI NH NG NF NE t21 ND NC NB NA Nz:Value},qb w W9->UnIn W9 w2.heap.size u x1 xc1 x2 xc2 x3 xc3->UnIn W9 b7 t y1 EB y2 EA y3 Ez->K { tmps:=#[qs,pq w2.heap.size 0,qi 0,pq w6.heap.size 0,qi 0,pq b7 0,qi 0,t7,t8,t9,NO,NN,NM,NL,NK,NJ,NI,NH,NG,NF,NE,t21,ND,NC,NB,NA,Nz],defers:=[] } W9:=by
  intro W9 b7 y1 y2 y3 EB EA Ez t7 t8 t9 NO NN NM NL NK NJ NI NH NG NF NE t21 ND NC NB NA Nz BN h1 h2;have B7:=hid BN;have H1:=hid h1;have H2:=hid h2;obtain ⟨q0,q1,q2,q3,q4⟩:=z9i h1.blk;obtain ⟨r0,r1,r2,r3,r4⟩:=z9i h2.blk;have qz:=lt_of_heap h1.blk;have rz:=lt_of_heap h2.blk;clear BN h1 h2 JK JJ Hu;refine hK _ _ ?_;clear hK;go_wp2_with fail;have Mv:=al1 W9 (.cells #[.string u.name,.slice x1 u.uses.length xc1,qi u.data,.slice x2 u.parts.length xc2,.slice x3 u.main.length xc3,.string t.name,.slice y1 t.uses.length EB,qi t.data,.slice y2 t.parts.length EA,.slice y3 t.main.length Ez] 42);go_ret;refine ⟨(qa W9.heap.size 0),rfl,?_,thenB B7.out Mv⟩;refine zb6 (Blk.new W9 _ _) ?_ (by simp [z20,Un.ds]) (by simp [z20,Un.ds])
  have e:z20 [u,t]=u.ds++t.ds:=by simp [z20]
  rw [e];have k1:=z76 xc1 xc2 xc3 Pq.out.1 Pq.out.2 (H1.out.ls.moves (zad.of_below Mv _));have k2:=z76 EB EA Ez Ps.out.1 Ps.out.2 (H2.out.ls.moves (zad.of_below Mv _));exact k1.append k2
 clear hK;have Tp:=hid (zbn Hu.out.1 (bdrew W6));have As:=lt_of_heap Hu.out.1;have CG:=hid (fun (W:World) (hW:qb W6 W)=>z9i (zbn Hu.out.1 hW))
 go_region_held (fun W=>W.cell? (qa w6.heap.size 0)=some (.string ⟨#[116,111,112]⟩)/\W.cell? (qa w6.heap.size 1)=some (.slice z1 1 d1)/\W.cell? (qa w6.heap.size 2)=some (.slice z2 0 d2)/\W.cell? (qa w6.heap.size 3)=some (.slice z3 0 d3)/\W.cell? (qa w6.heap.size 4)=some (.slice z4 3 d4))
  (first | with_reducible exact CG.out _ Bd.out | with_reducible exact CG.out _ (thenB Bd.out (al1 _ _)) | with_reducible exact CG.out _ (zdx Bd.out (by omega) _ _ _ _ _) | with_reducible exact CG.out _ BB.out | with_reducible exact CG.out _ (thenB BB.out (al1 _ _)) | with_reducible exact CG.out _ (thenB BB.out (bl2 _ _ _)) | with_reducible exact CG.out _ (bdrew _) | with_reducible exact CG.out _ (zbe _ _) | with_reducible exact CG.out _ (thenB (bdrew _) (al1 _ _)))
  (first
  | (go_at_call 57;refine (zti _).mono ?_;rintro e w7 ⟨ad,cp,rfl,hD,AP⟩;have Nl:=hid hD;(first | (with_reducible have BB:=hid (thenB (bdrew W6) AP)) | (have OQ:=hid (zbn (z9j W6 _) AP);have BB:=hid (thenB (zbe W6 _) AP)));have Ii:=BB.out.size;clear hD AP)
  | (go_at_call 21;(with_reducible refine (HT.out _ _ _ _ _ _ _ _ _ _ (Hu.out.2.later (thenB BB.out (al1 _ _))) _ _ (zpj Nl.out _)).mono ?_);rintro e w8 ⟨y1,EB,y2,EA,y3,Ez,rfl,hC,AQ⟩;have Da:=hid hC;have Bd:=hid (thenB BB.out (thenB (al1 _ _) AQ));(first | (with_reducible refine And.elim ?_ (zve (zbn (zbn OQ.out (al1 _ _)) AQ));intro e0 Bl;have JE:=hid (zbn (zbn OQ.out (al1 _ _)) AQ);obtain ⟨e1,e2,e3,e4,ef,ES⟩:=Bl) | skip);clear hC AQ)
  | (go_at_call 21;(with_reducible refine (HT.out _ _ _ _ _ _ _ _ _ _ (Hu.out.2.later (thenB BB.out (bl2 _ _ _))) _ _ ((zpj Nl.out _).later (al1 _ _))).mono ?_);rintro e w8 ⟨y1,EB,y2,EA,y3,Ez,rfl,hC,AQ⟩;have Da:=hid hC;have Bd:=hid (thenB BB.out (thenB (bl2 _ _ _) AQ));(refine And.elim ?_ (zve (zbn (z74 w7 _ _) AQ));intro e0 Bl;have JE:=hid (zbn (z74 w7 _ _) AQ);obtain ⟨e1,e2,e3,e4,ef,ES⟩:=Bl);clear hC AQ)
  | (go_at_call 21;(with_reducible refine (HT.out _ _ _ _ _ _ _ _ _ _ (Hu.out.2.later (thenB BB.out (bl2 _ _ _))) _ _ (z0e Nl.out _ _)).mono ?_);rintro e w8 ⟨y1,EB,y2,EA,y3,Ez,rfl,hC,AQ⟩;have Da:=hid hC;have Bd:=hid (thenB BB.out (thenB (bl2 _ _ _) AQ));(refine And.elim ?_ (zve (zbn (zab (heap_newP w7 _)) AQ));intro e0 Bl;have JE:=hid (zbn (zab (heap_newP w7 _)) AQ);obtain ⟨e1,e2,e3,e4,ef,ES⟩:=Bl);clear hC AQ))
 . show K _ _
   exact TAIL (thenB JK.out (thenB Bd.out (al1 w8 _))) (JJ.out.later (thenB Bd.out (al1 w8 _))) (Da.out.new EB EA Ez 42 rfl)
 . show K _ _
   exact TAIL (thenB JK.out (zdx Bd.out (b:=w7.heap.size+1) (by omega) _ _ _ _ _)) (JJ.out.later (zdx Bd.out (b:=w7.heap.size+1) (by omega) _ _ _ _ _)) (Da.out.set EB EA Ez JE.out (by simp<;>omega))
 . show K _ _
   exact TAIL (thenB JK.out (zdx Bd.out (b:=w7.heap.size) (by omega) _ _ _ _ _)) (JJ.out.later (zdx Bd.out (b:=w7.heap.size) (by omega) _ _ _ _ _)) (Da.out.set EB EA Ez JE.out (by simp<;>omega))
 . show K _ _
   exact TAIL (thenB JK.out (zdx Bd.out (b:=W6.heap.size) (by omega) _ _ _ _ _)) (JJ.out.later (zdx Bd.out (b:=W6.heap.size) (by omega) _ _ _ _ _)) (Da.out.set EB EA Ez JE.out (by simp<;>omega))
theorem z3e:D.fines ztg.ds:=zj5 _ (by kernel_rfl)
theorem z3f:D.fines zth.ds:=zj5 _ (by kernel_rfl)
theorem z0f {n k:Nat} (h:n=k) (hk:k<=maxLen):n<=maxLen:=h ▸ hk
theorem ztk (w:World) :
 qc 75 #[] w fun e w'=>∃ a,e = .returned (.slice (some a) 2 2)/\DAt w' Tt (some a) 2 (z20 [ztg,zth])/\qb w w':=
 ztj ztg zth z58 z59 z3e z3f (z0f (k:=3) (by kernel_rfl) (by decide)) (z0f (k:=3) (by kernel_rfl) (by decide)) w
def zrg:Ob:=zps ztg
theorem z6b:zw5 ztg = .ok zrg:=by kernel_rfl
theorem DAt.ints {w:World} {A:Nat->Prop} {a:OA} {n:Nat} {ds:List D} (h:DAt w A a n ds) (hn:0<n):∃ b off,a=some (qa b off)/\b<w.heap.size/\∀ (j:Nat) (k:Int),ds[j]? = some (.int k)->w.cell? ⟨b,off+j,none⟩=some (qi k):=by
 obtain ⟨b,off,ha,hb,hc⟩:=h.cell hn;refine ⟨b,off,ha,hb,fun j k hj=>?_⟩;obtain ⟨v,hv,hd⟩:=hc j _ hj;rw [(za3 hd).1] at hv;exact hv
structure Cob (w:World) (b3 o3 b4 o4 b5 o5:Nat):Prop where
 l3:b3<w.heap.size
 c0:w.cell? ⟨b3,o3+12,none⟩=some (qi 12)
 c1:w.cell? ⟨b3,o3+13,none⟩=some (qi 15)
 c2:w.cell? ⟨b3,o3+14,none⟩=some (qi 0)
 c3:w.cell? ⟨b3,o3+15,none⟩=some (qi 16)
 l4:b4<w.heap.size
 f0:w.cell? (qa b4 o4)=some (qi 4)
 f1:w.cell? ⟨b4,o4+1,none⟩=some (qi 1)
 f2:w.cell? ⟨b4,o4+2,none⟩=some (qi 0)
 f3:w.cell? ⟨b4,o4+3,none⟩=some (qi 6)
 f4:w.cell? ⟨b4,o4+4,none⟩=some (qi 3)
 f5:w.cell? ⟨b4,o4+5,none⟩=some (qi 0)
 en:DAt w Tt (some (qa b5 o5)) 1 (zfy [0])
theorem Cob.later {w w':World} {b3 o3 b4 o4 b5 o5:Nat} (h:Cob w b3 o3 b4 o4 b5 o5) (hb:qb w w'):Cob w' b3 o3 b4 o4 b5 o5:=
 have k3:∀ j,w'.cell? (qa b3 j)=w.cell? (qa b3 j):=fun j=>hb.cell (p:=(qa b3 j)) h.l3
 have k4:∀ j,w'.cell? (qa b4 j)=w.cell? (qa b4 j):=fun j=>hb.cell (p:=(qa b4 j)) h.l4
 ⟨vah h.l3 hb.size,(k3 _).trans h.c0,(k3 _).trans h.c1,(k3 _).trans h.c2,(k3 _).trans h.c3,vah h.l4 hb.size,(k4 _).trans h.f0,(k4 _).trans h.f1,(k4 _).trans h.f2,(k4 _).trans h.f3,(k4 _).trans h.f4,(k4 _).trans h.f5,h.en.later hb⟩
def z77 (l:List Ob):List D:=l.flatMap Ob.ds
structure ObAt (w:World) (b off:Nat) (o:Ob) (x1:OA) (y1:Nat) (x3:OA) (y3:Nat) (x4:OA) (y4:Nat) (x5:OA) (y5:Nat):Prop where
 lt:b<w.heap.size
 c0:w.cell? (qa b off)=some (.string o.name)
 c1:w.cell? ⟨b,off+1,none⟩=some (.slice x1 o.uses.length y1)
 c2:w.cell? ⟨b,off+2,none⟩=some (qi o.data)
 c3:w.cell? ⟨b,off+3,none⟩=some (.slice x3 o.code.length y3)
 c4:w.cell? ⟨b,off+4,none⟩=some (.slice x4 o.fixes.length y4)
 c5:w.cell? ⟨b,off+5,none⟩=some (.slice x5 o.entries.length y5)
 c6:w.cell? ⟨b,off+6,none⟩=some (qi o.main)
 ov:OvAt w o x1 x3 x4 x5
theorem DAt.ob {w:World} {a:OA} {l:List Ob} (h:DAt w Tt a l.length (z77 l)) (i:Nat) (hi:i<l.length):∃ b off x1 y1 x3 y3 x4 y4 x5 y5,a=some (qa b off)/\ObAt w b (off+i*7) l[i] x1 y1 x3 y3 x4 y4 x5 y5:=by
 obtain ⟨b,off,ha,hb,hc⟩:=h.cell (by omega);generalize hx:l[i]=x;obtain ⟨name,uses,data,code,fixes,entries,main⟩:=x
 have g:∀ j d,j<7->(Ob.mk name uses data code fixes entries main).ds[j]? = some d->∃ v,w.cell? ⟨b,off+i*7+j,none⟩=some v/\zc7 w Tt d v:=fun j d hj hd=>by
  rw [vbj];exact hc (i*7+j) d ((zck Ob.ds 7 (fun _=>rfl) l i hi j hj).trans (by rw [hx];exact hd))
 obtain ⟨v0,q0,d0⟩:=g 0 (.str name) (by omega) rfl;obtain ⟨v1,q1,d1⟩:=g 1 (.list uses.length (zaj uses)) (by omega) rfl;obtain ⟨v2,q2,d2⟩:=g 2 (.int data) (by omega) rfl;obtain ⟨v3,q3,d3⟩:=g 3 (.list code.length (zv5 code)) (by omega) rfl;obtain ⟨v4,q4,d4⟩:=g 4 (.list fixes.length (z1u fixes)) (by omega) rfl;obtain ⟨v5,q5,d5⟩:=g 5 (.list entries.length (zfy entries)) (by omega) rfl;obtain ⟨v6,q6,d6⟩:=g 6 (.int main) (by omega) rfl;obtain ⟨rfl,w0⟩:=zc8 d0;obtain ⟨x1,y1,rfl,h1⟩:=za0 d1;obtain ⟨rfl,w2⟩:=za3 d2;obtain ⟨x3,y3,rfl,h3⟩:=za0 d3;obtain ⟨x4,y4,rfl,h4⟩:=za0 d4;obtain ⟨x5,y5,rfl,h5⟩:=za0 d5;obtain ⟨rfl,w6⟩:=za3 d6;exact ⟨b,off,x1,y1,x3,y3,x4,y4,x5,y5,ha,hb,q0,q1,q2,q3,q4,q5,q6,w0,h1,w2,h3,h4,h5,w6⟩
def z9k (w:World) (a:OA) (n:Nat):Prop:=∀ b off,a=some (qa b off)->∀ i,i<n->∃ x k y,w.cell? ⟨b,off+i*7+1,none⟩=some (.slice x k y)/\k<=y
def zlp (w:World) (a:OA) (l:List Ob):Prop:=DAt w Tt a l.length (z77 l)/\z9k w a l.length
theorem zlp.later {w w':World} {a:OA} {l:List Ob} (h:zlp w a l) (hb:qb w w'):zlp w' a l:=by
 refine ⟨h.1.later hb,fun b off ha i hi=>?_⟩;obtain ⟨x,k,y,hc,hk⟩:=h.2 b off ha i hi;obtain ⟨b',C7,_,_,_,_,_,_,_,_,CZ,hO⟩:=DAt.ob (l:=l) h.1 i hi;rw [ha] at CZ
 cases CZ
 exact ⟨x,k,y,(hb.cell (p:=⟨b,off+i*7+1,none⟩) hO.lt).trans hc,hk⟩
theorem zlp.ob {w:World} {a:OA} {l:List Ob} (h:zlp w a l) (i:Nat) (hi:i<l.length):∃ b off x1 y1 x3 y3 x4 y4 x5 y5,a=some (qa b off)/\ObAt w b (off+i*7) l[i] x1 y1 x3 y3 x4 y4 x5 y5/\l[i].uses.length<=y1:=by
 obtain ⟨b,off,x1,y1,x3,y3,x4,y4,x5,y5,ha,hO⟩:=DAt.ob h.1 i hi;obtain ⟨x,k,y,hc,hk⟩:=h.2 b off ha i hi;have h1:=hO.c1;rw [hc] at h1;cases h1;exact ⟨b,off,x1,y1,x3,y3,x4,y4,x5,y5,ha,hO,hk⟩
theorem z0g {w:World} {o:Ob} {x1 x3 x4 x5:OA} (y1 y3 y4 y5:Nat) (h:OvAt w o x1 x3 x4 x5):zap w Tt o.ds [.string o.name,.slice x1 o.uses.length y1,qi o.data,.slice x3 o.code.length y3,.slice x4 o.fixes.length y4,.slice x5 o.entries.length y5,qi o.main]:=by
 unfold Ob.ds;exact .cons (zeu h.wn) (.cons h.uses.val (.cons (zdl h.wd) (.cons h.code.val (.cons h.fixes.val (.cons h.entries.val (.cons (zdl h.wm) .nil))))))
theorem z6c {w:World} {o p:Ob} {x1 x3 x4 x5 u1 u3 u4 u5:OA} (y1 y3 y4 y5 v1 v3 v4 v5:Nat) (h:OvAt w o x1 x3 x4 x5) (k:OvAt w p u1 u3 u4 u5) (h1:o.uses.length<=y1) (k1:p.uses.length<=v1) (t:TypeId) :
 zlp (w.alloc (.cells #[.string o.name,.slice x1 o.uses.length y1,qi o.data,.slice x3 o.code.length y3,.slice x4 o.fixes.length y4,.slice x5 o.entries.length y5,qi o.main,.string p.name,.slice u1 p.uses.length v1,qi p.data,.slice u3 p.code.length v3,.slice u4 p.fixes.length v4,.slice u5 p.entries.length v5,qi p.main] t)) (some (qa w.heap.size 0)) [o,p]:=by
 have hb:=Blk.new w #[.string o.name,.slice x1 o.uses.length y1,qi o.data,.slice x3 o.code.length y3,.slice x4 o.fixes.length y4,.slice x5 o.entries.length y5,qi o.main,.string p.name,.slice u1 p.uses.length v1,qi p.data,.slice u3 p.code.length v3,.slice u4 p.fixes.length v4,.slice u5 p.entries.length v5,qi p.main] t
 have e:z77 [o,p]=o.ds++p.ds:=by simp [z77]
 refine ⟨zb6 hb ?_ (by rw [e];simp [Ob.ds]) (by rw [e];simp [Ob.ds]),fun b off ha i hi=>?_⟩
 . rw [e]
   have m:zad w Tt (w.alloc (.cells #[.string o.name,.slice x1 o.uses.length y1,qi o.data,.slice x3 o.code.length y3,.slice x4 o.fixes.length y4,.slice x5 o.entries.length y5,qi o.main,.string p.name,.slice u1 p.uses.length v1,qi p.data,.slice u3 p.code.length v3,.slice u4 p.fixes.length v4,.slice u5 p.entries.length v5,qi p.main] t)) Tt:=⟨by simp,fun b hb _=>⟨trivial,(al1 _ _).block b hb⟩⟩
   exact (z0g y1 y3 y4 y5 (h.later (al1 _ _))).append (z0g v1 v3 v4 v5 (k.later (al1 _ _)))
 . cases ha
   have D4:i=0\/i=1:=by simp at hi;omega
   rcases D4 with rfl | rfl
   . exact ⟨x1,_,y1,hb.cell 1 _ rfl,h1⟩
   . exact ⟨u1,_,v1,hb.cell 8 _ rfl,k1⟩
def zpk:Ob:=zps zth
theorem z6d:zw5 zth = .ok zpk:=by kernel_rfl
theorem ztl (p q:Un) (o r:Ob) (ho:zw5 p = .ok o) (hr:zw5 q = .ok r) (hP:∀ w:World,qc 75 #[] w fun e w'=>∃ a,e = .returned (.slice (some a) 2 2)/\DAt w' Tt (some a) 2 (z20 [p,q])/\qb w w') (w:World) :
 qc 85 #[] w fun e w'=>∃ a,e = .returned (.slice (some a) 2 2)/\zlp w' (some a) [o,r]/\qb w w':=by
 have HP:=hid hP;have Ke:=hid (fun (W:World) (x1:OA) (y1:Nat) (x2:OA) (y2:Nat) (x3:OA) (y3:Nat) (hU:UvAt W p x1 y1 x2 y2 x3 y3)=>z4c ho hU);have RT:=hid (fun (W:World) (x1:OA) (y1:Nat) (x2:OA) (y2:Nat) (x3:OA) (y3:Nat) (hU:UvAt W q x1 y1 x2 y2 x3 y3)=>z4c hr hU);clear hP ho hr;go_enter Tryz.func85,Tryz.ntmps85;go_wp2_with fail;refine (HP.out _).mono ?_;rintro e w1 ⟨a,rfl,hD,A6⟩;have A7:=hid A6;obtain ⟨b,off,a1,k1,a2,k2,a3,k3,ha,hx⟩:=(DAt.un (l:=[p,q]) hD) 0 (by simp);obtain rfl:=vab ha;have HU:=hid hx.uv;simp only [vbh,vbi,vbp] at hx HU;obtain ⟨Au,z0,z1,z2,z3,z4,_,_,_,_,_⟩:=hx;clear hD A6 ha;go_wp2_with fail;refine (Ke.out _ _ _ _ _ _ _ HU.out).mono ?_;rintro e w2 ⟨x1,y1,x3,y3,x4,y4,x5,y5,rfl,hO,DU,Ab⟩
 have Mu:=al1 w2 (oC o x1 y1 x3 y3 x4 y4 x5 y5);have Af:=hid (thenB A7.out (thenB Ab Mu));have HO:=hid (hO.later Mu);have HC:=hid DU;have D0:=hid (heap_newP w2 (oC o x1 y1 x3 y3 x4 y4 x5 y5));clear hO DU Ab Mu Au z0 z1 z2 z3 z4 HU A7;go_wp2_with fail
 obtain ⟨W2,hW2⟩:∃ W2,W2=w2.alloc (oC o x1 y1 x3 y3 x4 y4 x5 y5):=⟨_,rfl⟩
 rw [← hW2] at Af HO D0 ⊢;clear hW2;refine (HP.out _).mono ?_;rintro e w3 ⟨a,rfl,hD,A9⟩;have Ae:=hid (thenB Af.out A9);have CU:=hid (HO.out.later A9);have Cm:=hid (zbn D0.out A9);obtain ⟨b,off,a1,k1,a2,k2,a3,k3,ha,hx⟩:=(DAt.un (l:=[p,q]) hD) 1 (by simp);obtain rfl:=vab ha;have HU:=hid hx.uv;simp only [vbn,vbh,vdm] at hx HU;obtain ⟨Au,z0,z1,z2,z3,z4,_,_,_,_,_⟩:=hx;clear hD A9 ha Af HO D0;go_wp2_with fail;refine (RT.out _ _ _ _ _ _ _ HU.out).mono ?_;rintro e w4 ⟨u1,v1,u3,v3,u4,v4,u5,v5,rfl,hR,hcr,Aj⟩;have Ar:=hid (thenB Ae.out Aj);have Ee:=hid (CU.out.later Aj);have AW:=hid hR;have S2:=hid hcr;have DZ:=hid (zbn Cm.out Aj);clear hR hcr Aj Au z0 z1 z2 z3 z4 HU Ae CU Cm;obtain ⟨q0,q1,q2,q3,q4,q5,q6,qz⟩:=zao DZ.out
 go_wp2_with fail;go_ret;refine ⟨_,rfl,?_,thenB Ar.out (bl2 _ _ _)⟩;have:=z6c y1 y3 y4 y5 v1 v3 v4 v5 (Ee.out.later (al1 w4 (oC r u1 v1 u3 v3 u4 v4 u5 v5))) (AW.out.later (al1 w4 (oC r u1 v1 u3 v3 u4 v4 u5 v5))) HC.out S2.out 62;simp only [vcm] at this;exact this
theorem ztm (w:World) :
 qc 85 #[] w fun e w'=>∃ a,e = .returned (.slice (some a) 2 2)/\zlp w' (some a) [zrg,zpk]/\qb w w':=
 ztl ztg zth zrg zpk z6b z6d ztk w
theorem z4f {B:Nat} {a w:World} (h:Below B a w) (m:Nat):Below B a (w.drewN m):=⟨h.os,h.tape,h.output,h.size,h.block⟩
end Go.Proofs.YtndkhgakfodldaaGreatDoor

namespace Go.Proofs.YtndkhgakfodldaaGreatDoor
set_option maxRecDepth 100000
set_option maxHeartbeats 800000
open Go.RowKit Go.Shelf
set_option linter.unusedSimpArgs false
set_option linter.unusedVariables false
structure Wk where
 au:OA
 cu:Nat
 an:OA
 cn:Nat
 ab:OA
 cb:Nat
 D:Nat
 cd:Nat
 S:Nat
def natI (l:List Nat):List Int:=l.map Int.ofNat
def ztn (l:List (List Nat)):List D:=l.map fun r=>.list r.length (zfy (natI r))
abbrev wC (cx:Cx) (K:Wk) (ai:OA) (ci:Nat) (vo:Value) (s:Sw) (e:Int):Array Value:=#[.slice K.au cx.us.length K.cu,.slice K.an cx.near.length K.cn,.slice K.ab cx.beg.length K.cb,.slice (some (qa K.D 0)) s.data.length K.cd,.slice ai s.inp.length ci,vo,qi cx.lim,qi s.ticks,qi s.calls,qi e]
structure Ro (w:World) (B base:Nat) (cx:Cx) (K:Wk):Prop where
 us:DAt w (·<base) K.au cx.us.length (z20 cx.us)
 near:DAt w (fun b=>b<K.S/\b≠B/\b≠K.D) K.an cx.near.length (ztn cx.near)
 beg:DAt w (fun b=>b<K.S/\b≠B/\b≠K.D) K.ab cx.beg.length (zfy cx.beg)
 lB:base<=B
 lD:base<=K.D
 BS:B<K.S
 DS:K.D<K.S
 BD:B≠K.D
 zS:K.S<=w.heap.size
theorem Ro.moves {w w':World} {B base:Nat} {cx:Cx} {K:Wk} (h:Ro w B base cx K) (hz:w.heap.size<=w'.heap.size) (hk:∀ b,b<K.S->b≠B->b≠K.D->w'.heap[b]? = w.heap[b]?):Ro w' B base cx K:=
 have h1:=h.lB;have h2:=h.lD;have h3:=h.BS
 ⟨h.us.moves ⟨hz,fun b _ hl=>⟨hl,hk b (by omega) (by omega) (by omega)⟩⟩,h.near.moves ⟨hz,fun b _ hl=>⟨hl,hk b hl.1 hl.2.1 hl.2.2⟩⟩,h.beg.moves ⟨hz,fun b _ hl=>⟨hl,hk b hl.1 hl.2.1 hl.2.2⟩⟩,h.lB,h.lD,h.BS,h.DS,h.BD,vbc h.zS hz⟩
structure Wd (w:World) (B base:Nat) (cx:Cx) (K:Wk) (vo:Value) (s:Sw) (e:Int):Prop where
 blk:∃ ai ci,w.heap[B]? = some (.cells (wC cx K ai ci vo s e) 128 (0,0))/\DAt w (·<base) ai s.inp.length (zfy s.inp)/\s.inp.length<=ci
 data:w.heap[K.D]? = some (.cells (intV s.data).toArray 3 (0,0))
 out:w.ownsRow K.S 3 1 vo s.out.length (intV s.out)
 ro:Ro w B base cx K
 cd:K.cd=s.data.length
 dl:s.data.length<=512
 tl:s.ticks<=cx.lim
 tm:cx.lim<=1000000
 cl:s.calls<=24
 ol:s.out.length<=200
theorem Wd.oB {w:World} {B base:Nat} {cx:Cx} {K:Wk} {vo:Value} {s:Sw} {e:Int} (h:Wd w B base cx K vo s e):vo.ownBlock≠some B:=fun x=>by have:=(h.out.lt B x).1;have:=h.ro.BS;omega
theorem Wd.oD {w:World} {B base:Nat} {cx:Cx} {K:Wk} {vo:Value} {s:Sw} {e:Int} (h:Wd w B base cx K vo s e):vo.ownBlock≠some K.D:=fun x=>by have:=(h.out.lt K.D x).1;have:=h.ro.DS;omega
structure Fm (B D:Nat) (vo vo':Value) (w w':World):Prop where
 os:w'.os=w.os
 tape:w'.tape=w.tape
 output:w'.output=w.output
 size:w.heap.size<=w'.heap.size
 block:∀ b,b<w.heap.size->b≠B->b≠D->vo.ownBlock≠some b->w'.heap[b]? = w.heap[b]?
 own:∀ k,vo'.ownBlock=some k->k<w.heap.size->vo.ownBlock=some k
theorem Fm.refl (B D:Nat) (vo:Value) (w:World):Fm B D vo vo w w:=⟨rfl,rfl,rfl,vaa _,fun _ _ _ _ _=>rfl,fun _ h _=>h⟩
theorem Fm.trans {B D:Nat} {v1 v2 v3:Value} {a b c:World} (h:Fm B D v1 v2 a b) (k:Fm B D v2 v3 b c):Fm B D v1 v3 a c:=
 ⟨k.os.trans h.os,k.tape.trans h.tape,k.output.trans h.output,vbc h.size k.size,fun x hx h1 h2 h3=>(k.block x (vah hx h.size) h1 h2 (fun e=>h3 (h.own x e hx))).trans (h.block x hx h1 h2 h3),fun x e hx=>h.own x (k.own x e (vah hx h.size)) hx⟩
theorem Fm.grown {B D:Nat} {vo:Value} {w w':World} (h:w.grownBy w' (some B)):Fm B D vo vo w w':=⟨h.os,h.tape,h.output,h.size,fun b hb h1 _ _=>h.block b hb (fun e=>h1 (vab e)),fun _ h _=>h⟩
theorem Fm.below {B D:Nat} {vo:Value} {w w':World} (h:qb w w'):Fm B D vo vo w w':=⟨h.os,h.tape,h.output,h.size,fun b hb _ _ _=>h.block b hb,fun _ h _=>h⟩
abbrev z6e (c:Int):List PanicEntry:=[{ v:=.iface 3 (qi c),recovered:=false }]
def Sr {α:Type} (AD:α->Value) (B base:Nat) (cx:Cx) (K:Wk) (w:World) (vo:Value) (r:Rr α) (e:Ending) (w':World):Prop:=
 ∃ vo',Fm B K.D vo vo' w w'/\((∃ a s,r = .ok a s/\e = .returned (AD a)/\Wd w' B base cx K vo' s 0)\/(∃ c s,r = .stop c s/\e = .panicked (z6e c)/\Wd w' B base cx K vo' s c))
def yag (n:Int):Value:=qi n
def z9l (_:Unit):Value:=.tuple #[]
theorem ze2 {w:World} {b:Nat} {x0 x1 x2 x3 x4 x5 x6 x7 x8 x9:Value} {t:TypeId} (h:w.heap[b]? = some (.cells #[x0,x1,x2,x3,x4,x5,x6,x7,x8,x9] t (0,0))) :
 w.cell? (qa b 0)=some x0/\w.cell? (qa b 1)=some x1/\w.cell? (qa b 2)=some x2/\w.cell? (qa b 3)=some x3/\w.cell? (qa b 4)=some x4/\w.cell? (qa b 5)=some x5/\w.cell? (qa b 6)=some x6/\w.cell? (qa b 7)=some x7/\w.cell? (qa b 8)=some x8/\w.cell? (qa b 9)=some x9/\b<w.heap.size/\∀ j,w.frozen? (qa b j)=false:=by
 refine ⟨?_,?_,?_,?_,?_,?_,?_,?_,?_,?_,lt_of_heap h,fun j=>veg h j⟩<;>(rw [vef h];rfl)
theorem zef {w:World} {B i:Nat} {u:Value}:w.grownBy (w.setCell (qa B i) u) (some B):=⟨rfl,rfl,rfl,by simp,fun k _ Ak=>heap_set_ne (fun e=>Ak (by rw [e])) u⟩
theorem Wd.put {w:World} {B base:Nat} {cx:Cx} {K:Wk} {vo:Value} {s s':Sw} {e e':Int} {i:Nat} {u:Value} (h:Wd w B base cx K vo s e) (hs:∀ ai ci,(wC cx K ai ci vo s e).setIfInBounds i u=wC cx K ai ci vo s' e') (h1:s'.data=s.data) (h2:s'.inp=s.inp) (h3:s'.out=s.out) (h4:s'.ticks<=cx.lim) (h5:s'.calls<=24):Wd (w.setCell (qa B i) u) B base cx K vo s' e':=by
 obtain ⟨ai,ci,hb,hi,hc⟩:=h.blk;have h6:=h.ro.lB;refine ⟨⟨ai,ci,?_,?_,by rw [h2];exact hc⟩,?_,?_,h.ro.moves (by simp) (fun b _ hn _=>heap_set_ne (by show b≠B;exact hn) u),by rw [h1];exact h.cd,by rw [h1];exact h.dl,h4,h.tm,h5,by rw [h3];exact h.ol⟩
 . rw [heap_set hb u,hs]
 . rw [h2]
   exact hi.moves ⟨by simp,fun b _ A4=>⟨A4,heap_set_ne (by show b≠B;omega) u⟩⟩
 . rw [h1]
   exact (heap_set_ne (by show K.D≠B;exact fun e=>h.ro.BD e.symm) u).trans h.data
 . rw [h3]
   exact zai h.out (fun k hk=>heap_set_ne (fun e=>h.oB (by rw [hk];exact congrArg some e)) u)
theorem stop_any (B base:Nat) (cx:Cx) (K:Wk) (vo:Value) (s:Sw) (c:Int) (w:World) (h:Wd w B base cx K vo s 0) :
 qc 167 #[pq B 0,qi c] w fun e w'=>e = .panicked (z6e c)/\w.grownBy w' (some B)/\Wd w' B base cx K vo s c:=by
 obtain ⟨ai,ci,hb,_,_⟩:=h.blk;obtain ⟨q0,q1,q2,q3,q4,q5,q6,q7,q8,q9,qz,qf⟩:=ze2 hb;have HP:=hid (h.put (i:=9) (u:=qi c) (s':=s) (e':=c) (fun _ _=>rfl) rfl rfl rfl h.tl h.cl);clear h hb;go_enter Tryz.func167,Tryz.ntmps167;go_wp2_with fail;exact ⟨rfl,rfl,zef,HP.out⟩
set_option maxHeartbeats 1600000
theorem Wd.below {w w':World} {B base:Nat} {cx:Cx} {K:Wk} {vo:Value} {s:Sw} {e:Int} (h:Wd w B base cx K vo s e) (hb:qb w w'):Wd w' B base cx K vo s e:=by
 obtain ⟨ai,ci,hB,hi,hc⟩:=h.blk;have hl:=lt_of_heap hB;exact ⟨⟨ai,ci,(hb.block _ hl).trans hB,hi.moves ⟨hb.size,fun b hx A4=>⟨A4,hb.block b hx⟩⟩,hc⟩,(hb.block _ (lt_of_heap h.data)).trans h.data,ownsRow_later h.out hb,h.ro.moves hb.size (fun b h1 _ _=>hb.block b (vah h1 h.ro.zS)),h.cd,h.dl,h.tl,h.tm,h.cl,h.ol⟩
theorem bd (w:World) (m:Nat):qb w (w.drewN m):=z4f (Below.refl _ _) m
theorem tick_any (B base:Nat) (cx:Cx) (K:Wk) (vo:Value) (s:Sw) (w:World) (h:Wd w B base cx K vo s 0) :
 qc 166 #[pq B 0] w fun e w'=>Sr z9l B base cx K w vo (zjq cx.lim s) e w':=by
 obtain ⟨ai,ci,hb,_,_⟩:=h.blk;obtain ⟨q0,q1,q2,q3,q4,q5,q6,q7,q8,q9,qz,qf⟩:=ze2 hb;have Sk:=h.tl;have Sj:=h.tm;have HW:=hid h;clear h hb
 by_cases ht:s.ticks=cx.lim
 . have HR:Hid (zjq cx.lim s = .stop 3 s):=if_pos ht
   have HS:=hid (fun W (hW:qb w W)=>stop_any B base cx K vo s 3 W (HW.out.below hW))
   have QJ:((s.ticks:Int) == (cx.lim:Int))=true:=by rw [ht];simp
   go_enter Tryz.func166,Tryz.ntmps166;go_wp2_with fail
   go_quiet ((fail))
   go_wp2_with fail;refine (HS.out _ (bd w _)).mono ?_;rintro e w1 ⟨rfl,hg,hw⟩;exact ⟨rfl,vo,(Fm.below (bd w _)).trans (Fm.grown hg),Or.inr ⟨3,s,HR.out,rfl,hw⟩⟩
 . have HR:Hid (zjq cx.lim s = .ok () { s with ticks:=s.ticks+1 }):=if_neg ht
   have QJ:((s.ticks:Int) == (cx.lim:Int))=false:=by rw [beq_eq_false_iff_ne];omega
   have HP:=hid (fun W (hW:qb w W)=>(HW.out.below hW).put (i:=7) (u:=qi ((s.ticks:Int)+1)) (s':={ s with ticks:=s.ticks+1 }) (e':=0) (fun _ _=>rfl) rfl rfl rfl (by show s.ticks+1<=cx.lim;omega) HW.out.cl);go_enter Tryz.func166,Tryz.ntmps166;go_wp2_with fail
   go_quiet ((fail))
   go_wp2_with fail;go_end0;exact ⟨vo,(Fm.below (bd w _)).trans (Fm.grown zef),Or.inl ⟨(),_,HR.out,rfl,HP.out _ (bd w _)⟩⟩
end Go.Proofs.YtndkhgakfodldaaGreatDoor
