import Derived.Test.YtndkhgakfodldaaGreatDoorUr
import Derived.Test.YtndkhgakfodldaaGreatDoorPo
import Derived.Test.YtndkhgakfodldaaGreatDoorXe
namespace Go.Proofs.YtndkhgakfodldaaGreatDoor
set_option maxRecDepth 100000
set_option maxHeartbeats 1600000
open Go.RowKit Go.Maps Go.WideMaps
set_option linter.unusedSimpArgs false
def zxp:Fc:=⟨⟨#[99,110,116]⟩,[⟨1,3,0,⟨#[107]⟩⟩,⟨2,0,0,⟨#[115,117,109]⟩⟩,⟨3,4,1,⟨#[116]⟩⟩,⟨4,1,0,⟨#[100,111,119,110]⟩⟩]⟩
def ybg (r:Except Int Un):Un:=match r with | .ok u=>u | .error _=>⟨⟨#[]⟩,[],0,[],[]⟩
def zt3:Un:=ybg (zes zpc [])
def zt4:Un:=ybg (zes zm0 [zxp])
theorem z68:zes zpc [] = .ok zt3:=ah
theorem z69:zes zm0 [zxp] = .ok zt4:=ah
theorem EAt.num {w:World} {A:Nat->Prop} {a:OA} {n:Nat} {ds:List D} (h:EAt w A a n ds) (hn:n≠0):∃ b off,a=some (qa b off)/\b<w.heap.size/\A b/\∀ (j:Nat) (k:Int),ds[j]? = some (.int k)->w.cell? ⟨b,off+j,none⟩=some (qi k):=by
 rcases h with h | ⟨b,off,cs,ha,hA,hb,hc,hx⟩
 . exact absurd h hn
 . refine ⟨b,off,ha,hb,hA,fun j k hj=>?_⟩
   obtain ⟨v,hv,hd⟩:=hx.get j _ hj;rw [zpf hd] at hv;exact hc j _ hv
theorem zt5 (w:World) :
 qc 57 #[] w fun e w'=>∃ ad cap,e = .returned (.agg #[.string ⟨#[99,110,116]⟩,.slice ad 4 cap])/\DAt w' Tt ad 4 (zg8 zxp.items)/\qb w w':=by
 go_enter Tryz.func57,Tryz.ntmps57;go_wp2_with fail
 obtain ⟨W,hW⟩:∃ W,W=allocsC w [(#[.string ⟨#[99,110,116]⟩,.slice (some ⟨w.heap.size+1,0,none⟩) 4 4],30),(#[qi 1,qi 3,qi 0,.string ⟨#[107]⟩,qi 2,qi 0,qi 0,.string ⟨#[115,117,109]⟩,qi 3,qi 4,qi 1,.string ⟨#[116]⟩,qi 4,qi 1,qi 0,.string ⟨#[100,111,119,110]⟩],98)]:=⟨_,rfl⟩
 have hB:qb w W:=by rw [hW];exact zep _ _
 have hD:DAt W Tt (some ⟨w.heap.size+1,0,none⟩) 4 (zg8 zxp.items):=by
  rw [hW];refine zca (zax w _ 1 _ _ rfl) ?_ aq aq;exact .cons (zdt rfl) (.cons (zdt rfl) (.cons (zdt rfl) (.cons (ze7 aq) (.cons (zdt rfl) (.cons (zdt rfl) (.cons (zdt rfl) (.cons (ze7 aq) (.cons (zdt rfl) (.cons (zdt rfl) (.cons (zdt rfl) (.cons (ze7 aq) (.cons (zdt rfl) (.cons (zdt rfl) (.cons (zdt rfl) (.cons (ze7 aq) .nil)))))))))))))))
 refine bodyPost_ret (v:=.agg #[.string ⟨#[99,110,116]⟩,.slice (some ⟨w.heap.size+1,0,none⟩) 4 4]) (by simp [results,Tryz.results57,go_sem]) rfl ⟨some ⟨w.heap.size+1,0,none⟩,4,rfl,?_,?_⟩
 . rw [hW] at hD;exact hD
 . rw [hW] at hB;exact hB
theorem z05 (w:World):qc 55 #[.string z45] w fun e w'=>∃ v a1 c1 a2 c2 a3 c3 a4 c4,e = .returned (.tuple #[v,qi 0])/\MoAt w' Tt zm0 v a1 c1 a2 c2 a3 c3 a4 c4/\qb w w':=
 (zz6 z45 w aq).mono fun e w' ⟨h,hb⟩=>by
   rcases h with ⟨h,_⟩ | ⟨m,v,a1,c1,a2,c2,a3,c3,a4,c4,hp,_,he,hM⟩
   . rw [zve] at h;cases h
   . rw [zve] at hp
     obtain rfl:=vab hp;exact ⟨v,a1,c1,a2,c2,a3,c3,a4,c4,he,hM,hb⟩
set_option maxHeartbeats 12800000
structure Sg (w W:World) (b1 b3 b5:Nat) (a:OA) (cap:Nat) (s:ByteArray) (x1:OA) (n1 y1:Nat) (b2 o2 y2:Nat) (x3:OA) (n3 y3:Nat) (z1:OA) (d1:Nat) (z2:OA) (d2:Nat) (z3:OA) (d3:Nat) (z4:OA) (d4:Nat):Prop where
 below:qb w W
 h1:W.heap[b1]? = some (.cells #[.string ⟨#[99,110,116]⟩,.slice a 4 cap] 30 (0,0))
 its:Fx.zcy W a zxp.items
 fit:Fx.AllFit zxp.items
 h3:W.heap[b3]? = some (.cells #[.string s,.slice x1 n1 y1,qi 5,.slice (some (qa b2 o2)) 1 y2,.slice x3 n3 y3] 42 (0,0))
 l3:b2<W.heap.size
 c3:W.cell? ⟨b2,o2+1,none⟩=some (qi 1)
 h5:W.heap[b5]? = some (.cells #[.string ⟨#[116,111,112]⟩,.slice z1 1 d1,.slice z2 0 d2,.slice z3 0 d3,.slice z4 3 d4] 27 (0,0))
 mo:MoAt W Tt zm0 (.agg #[.string ⟨#[116,111,112]⟩,.slice z1 1 d1,.slice z2 0 d2,.slice z3 0 d3,.slice z4 3 d4]) z1 d1 z2 d2 z3 d3 z4 d4
theorem Sg.later {w W W':World} {b1 b3 b5:Nat} {a:OA} {cap:Nat} {s:ByteArray} {x1:OA} {n1 y1 b2 o2 y2:Nat} {x3:OA} {n3 y3:Nat} {z1 z2 z3 z4:OA} {d1 d2 d3 d4:Nat} (h:Sg w W b1 b3 b5 a cap s x1 n1 y1 b2 o2 y2 x3 n3 y3 z1 d1 z2 d2 z3 d3 z4 d4) (hb:qb W W'):Sg w W' b1 b3 b5 a cap s x1 n1 y1 b2 o2 y2 x3 n3 y3 z1 d1 z2 d2 z3 d3 z4 d4:=
 ⟨h.below.trans (hb.mono h.below.size),(hb.block _ (lt_of_heap h.h1)).trans h.h1,h.its.later hb,h.fit,(hb.block _ (lt_of_heap h.h3)).trans h.h3,vai h.l3 hb.size,(hb.cell (p:=⟨b2,o2+1,none⟩) h.l3).trans h.c3,(hb.block _ (lt_of_heap h.h5)).trans h.h5,h.mo.later hb⟩
structure Tg (W:World) (b7:Nat) (s:ByteArray) (x1:OA) (n1 y1:Nat) (d:Int) (x2:OA) (n2 y2 b3 o3 y3:Nat):Prop where
 h7:W.heap[b7]? = some (.cells #[.string s,.slice x1 n1 y1,qi d,.slice x2 n2 y2,.slice (some (qa b3 o3)) 3 y3] 42 (0,0))
 l7:b3<W.heap.size
 n:W.cell? ⟨b3,o3+1,none⟩=some (qi 4)
 m:W.cell? ⟨b3,o3+2,none⟩=some (qi 1)
 at':W.cell? ⟨b3,o3+3,none⟩=some (qi 1)
theorem Tg.later {W W':World} {b7:Nat} {s:ByteArray} {x1:OA} {n1 y1:Nat} {d:Int} {x2:OA} {n2 y2 b3 o3 y3:Nat} (h:Tg W b7 s x1 n1 y1 d x2 n2 y2 b3 o3 y3) (hb:qb W W'):Tg W' b7 s x1 n1 y1 d x2 n2 y2 b3 o3 y3:=
 ⟨(hb.block _ (lt_of_heap h.h7)).trans h.h7,vai h.l7 hb.size,(hb.cell (p:=⟨b3,o3+1,none⟩) h.l7).trans h.n,(hb.cell (p:=⟨b3,o3+2,none⟩) h.l7).trans h.m,(hb.cell (p:=⟨b3,o3+3,none⟩) h.l7).trans h.at'⟩
theorem zp1 {w:World} {ad:OA} {cp:Nat} (hD:DAt w Tt ad 4 (zg8 zxp.items)) (t:TypeId):DAt (w.alloc (.cells #[.string ⟨#[99,110,116]⟩,.slice ad 4 cp] t)) Tt (some (qa w.heap.size 0)) 1 (z61 [zxp]):=by
 refine zca (zax w [(#[.string ⟨#[99,110,116]⟩,.slice ad 4 cp],t)] 0 _ _ rfl) ?_ aq aq;exact .cons (ze7 aq) (.cons (hD.moves ⟨aA,fun b hb _=>⟨trivial,(al1 _ _).block b hb⟩⟩).val .nil)
theorem z06 {w:World} {ad:OA} {cp:Nat} (hD:DAt w Tt ad 4 (zg8 zxp.items)) (o:Obj) (t:TypeId):DAt ((w.alloc o).alloc (.cells #[.string ⟨#[99,110,116]⟩,.slice ad 4 cp] t)) Tt (some ⟨w.heap.size+1,0,none⟩) 1 (z61 [zxp]):=by
 have:=zp1 (cp:=cp) (hD.moves (w':=w.alloc o) ⟨aA,fun b hb _=>⟨trivial,(al1 _ _).block b hb⟩⟩) t;exact jI
theorem yah {W:World} {b:Nat} {v0 v1 v2 v3 v4:Value} {t:TypeId} (h:W.heap[b]? = some (.cells #[v0,v1,v2,v3,v4] t (0,0))):W.cell? (qa b 0)=some v0/\W.cell? (qa b 1)=some v1/\W.cell? (qa b 2)=some v2/\W.cell? (qa b 3)=some v3/\W.cell? (qa b 4)=some v4:=
 have h3:=zaa h
 ⟨h3.1,h3.2.1,h3.2.2.1,h3.2.2.2.1,h3.2.2.2.2.1⟩
theorem zbc {w w':World} {b:Nat} {x:Obj} (h:w.heap[b]? = some x) (hb:qb w w'):w'.heap[b]? = some x:=(hb.block _ (lt_of_heap h)).trans h
theorem yai (w:World) (o:Obj):(w.alloc o).drew.heap[w.heap.size]? = some o:=heap_newP w o
theorem z85 (w:World) (o p:Obj):((w.alloc o).alloc p).heap[w.heap.size+1]? = some p:=eg
set_option maxHeartbeats 6400000
set_option linter.unusedVariables false
mutual
def D.fineB:D->Bool
 | .int n=>(Lit.int .i64 n).wf
 | .str _=>true
 | .bool _=>true
 | .list n ds=>decide (n<=ds.length)&&(decide (ds.length<=17592186044416)&&zv4 ds)
def zv4:List D->Bool
 | []=>true
 | d :: ds=>d.fineB&&zv4 ds
end
mutual
theorem z7a:∀ d:D,d.fineB=true->d.fine
 | .int _,h=>by unfold D.fineB at h;unfold D.fine;exact h
 | .str _,_=>by unfold D.fine;trivial
 | .bool _,_=>by unfold D.fine;trivial
 | .list n ds,h=>by
   unfold D.fineB at h;unfold D.fine;simp only [vac,decide_eq_true_eq] at h;exact ⟨h.1,h.2.1,zky ds h.2.2⟩
theorem zky:∀ l:List D,zv4 l=true->D.fines l
 | [],_=>by unfold D.fines;trivial
 | d :: ds,h=>by
   unfold zv4 at h;unfold D.fines;rw [vac] at h;exact ⟨z7a d h.1,zky ds h.2⟩
end
def Uls (w:World) (A:Nat->Prop) (u:Un) (x1 x2 x3:OA):Prop:=DAt w A x1 u.uses.length (zak u.uses)/\DAt w A x2 u.parts.length (zlu u.parts)/\DAt w A x3 u.main.length (zdu u.main)
theorem Uls.moves {w w':World} {A A':Nat->Prop} {u:Un} {x1 x2 x3:OA} (h:Uls w A u x1 x2 x3) (m:zad w A w' A'):Uls w' A' u x1 x2 x3:=⟨h.1.moves m,h.2.1.moves m,h.2.2.moves m⟩
theorem z86 {w:World} {A:Nat->Prop} {u:Un} {x1 x2 x3:OA} (hf:D.fines u.ds) (h1:EAt w A x1 u.uses.length (zak u.uses)) (h2:EAt w A x2 u.parts.length (zlu u.parts)) (h3:EAt w A x3 u.main.length (zdu u.main)):Uls w A u x1 x2 x3:=by
 simp only [Un.ds,D.fines,D.fine] at hf;obtain ⟨_,⟨a1,a2,a3⟩,_,⟨b1,b2,b3⟩,⟨c1,c2,c3⟩,_⟩:=hf;exact ⟨h1.toD a1 a2 a3,h2.toD b1 b2 b3,h3.toD c1 c2 c3⟩
structure UnIn (w:World) (b:Nat) (u:Un) (x1:OA) (xc1:Nat) (x2:OA) (xc2:Nat) (x3:OA) (xc3:Nat):Prop where
 blk:w.heap[b]? = some (.cells #[.string u.name,.slice x1 u.uses.length xc1,qi u.data,.slice x2 u.parts.length xc2,.slice x3 u.main.length xc3] 42 (0,0))
 ls:Uls w Tt u x1 x2 x3
theorem UnIn.later {w w':World} {b:Nat} {u:Un} {x1 x2 x3:OA} {xc1 xc2 xc3:Nat} (h:UnIn w b u x1 xc1 x2 xc2 x3 xc3) (hb:qb w w'):UnIn w' b u x1 xc1 x2 xc2 x3 xc3:=
 ⟨zbc h.blk hb,h.ls.moves (zad.of_below hb _)⟩
def z5d (u:Un) (w:World) (e:Ending) (w':World):Prop:=∃ x1 xc1 x2 xc2 x3 xc3,e = .returned (.tuple #[.agg #[.string u.name,.slice x1 u.uses.length xc1,qi u.data,.slice x2 u.parts.length xc2,.slice x3 u.main.length xc3],qi 0])/\Uls w' (w.heap.size<=·) u x1 x2 x3/\qb w w'
theorem z5e {m:Mo} {l:List Fc} {u:Un} (hr:zes m l = .ok u) (hf:D.fines u.ds) {w:World} {v:Value} {a1 a2 a3 a4:OA} {c1 c2 c3 c4:Nat} (hM:MoAt w Tt m v a1 c1 a2 c2 a3 c3 a4 c4) {al:OA} (cl:Nat) (hF:DAt w Tt al l.length (z61 l)) :
 qc 21 #[v,.slice al l.length cl] w fun e w'=>z5d u w e w':=
 (zt2 m v a1 c1 a2 c2 a3 c3 a4 c4 l al cl w hM hF).mono fun e w' ⟨h,hb⟩=>by
   rw [hr] at h;obtain ⟨x1,y1,x2,y2,x3,y3,he,h1,h2,h3⟩:=h;exact ⟨x1,y1,x2,y2,x3,y3,he,z86 hf h1 h2 h3,hb⟩
theorem Uls.new {w:World} {A:Nat->Prop} {u:Un} {x1 x2 x3:OA} (xc1 xc2 xc3:Nat) (h:Uls w A u x1 x2 x3) (t:TypeId) (ht:t=42):UnIn (w.alloc (.cells #[.string u.name,.slice x1 u.uses.length xc1,qi u.data,.slice x2 u.parts.length xc2,.slice x3 u.main.length xc3] t)) w.heap.size u x1 xc1 x2 xc2 x3 xc3:=by
 subst ht;exact ⟨heap_newP _ _,h.moves ⟨aA,fun b hb _=>⟨trivial,(al1 _ _).block b hb⟩⟩⟩
theorem Uls.set {w:World} {lo b:Nat} {u:Un} {x1 x2 x3:OA} (xc1 xc2 xc3:Nat) {v0 v1 v2 v3 v4:Value} (h:Uls w (lo<=·) u x1 x2 x3) (hz:w.heap[b]? = some (.cells #[v0,v1,v2,v3,v4] 42)) (hb:b<lo):UnIn (set5 w b (.string u.name) (.slice x1 u.uses.length xc1) (qi u.data) (.slice x2 u.parts.length xc2) (.slice x3 u.main.length xc3)) b u x1 xc1 x2 xc2 x3 xc3:=by
 refine ⟨heap_set (heap_set (heap_set (heap_set (heap_set hz _) _) _) _) _,h.moves ⟨by simp [set5],fun k hk hl=>⟨trivial,?_⟩⟩⟩
 have hn:k≠b:=ae
 exact (heap_set_ne hn _).trans ((heap_set_ne hn _).trans ((heap_set_ne hn _).trans ((heap_set_ne hn _).trans (heap_set_ne hn _))))
theorem z87 {w:World} {u:Un} {x1 x2 x3:OA} (xc1 xc2 xc3:Nat) (hf:D.fines u.ds) (hn:u.name.size<=maxLen) (h:Uls w Tt u x1 x2 x3):zaq w Tt u.ds [.string u.name,.slice x1 u.uses.length xc1,qi u.data,.slice x2 u.parts.length xc2,.slice x3 u.main.length xc3]:=by
 simp only [Un.ds,D.fines,D.fine] at hf;unfold Un.ds;exact .cons (ze7 hn) (.cons h.1.val (.cons (zdt hf.2.2.1) (.cons h.2.1.val (.cons h.2.2.val .nil))))
theorem zt6 (u t:Un) (hu:zes zpc [] = .ok u) (ht:zes zm0 [zxp] = .ok t) (Ie:D.fines u.ds) (Nq:D.fines t.ds) (Pu:u.name.size<=maxLen) (Pv:t.name.size<=maxLen) (w:World) :
 qc 75 #[] w fun e w'=>∃ a,e = .returned (.slice (some a) 2 2)/\DAt w' Tt (some a) 2 (z30 [u,t])/\qb w w':=by
 have HU:=hid (fun (W:World) (v:Value) (a1:OA) (c1:Nat) (a2:OA) (c2:Nat) (a3:OA) (c3:Nat) (a4:OA) (c4:Nat) (hM:MoAt W Tt zpc v a1 c1 a2 c2 a3 c3 a4 c4)=>z5e hu Ie hM (al:=none) 0 ⟨vaa _,vaf _,Or.inl rfl⟩)
 have HT:Hid (∀ (W:World) (v:Value) (a1:OA) (c1:Nat) (a2:OA) (c2:Nat) (a3:OA) (c3:Nat) (a4:OA) (c4:Nat),MoAt W Tt zm0 v a1 c1 a2 c2 a3 c3 a4 c4->∀ (al:OA) (cl:Nat),DAt W Tt al 1 (z61 [zxp])->qc 21 #[v,.slice al 1 cl] W fun e w'=>z5d t W e w'):=fun W v a1 c1 a2 c2 a3 c3 a4 c4 hM al cl hF=>z5e ht Nq hM (l:=[zxp]) cl hF
 have QG:=hid (And.intro Ie Pu);have QH:=hid (And.intro Nq Pv);clear hu ht Ie Nq Pu Pv;go_enter Tryz.func75,Tryz.ntmps75;go_wp2_with fail;refine (zth _).mono ?_;rintro e w1 ⟨v,a1,c1,a2,c2,a3,c3,a4,c4,rfl,hM,A6⟩;have HM:=hid hM;have A8:=hid A6;clear hM A6;go_wp2_with fail;refine (HU.out _ _ _ _ _ _ _ _ _ _ HM.out).mono ?_;rintro e w2 ⟨x1,xc1,x2,xc2,x3,xc3,rfl,hC,Ab⟩;have HN:=hid (hC.new xc1 xc2 xc3 42 rfl);have Ad:=hid (thenB A8.out (thenB Ab (al1 w2 (kzC u.name x1 u.uses.length xc1 u.data x2 u.parts.length xc2 x3 u.main.length xc3))));clear hC Ab HM A8;go_wp2_with fail
 obtain ⟨W2,hW2⟩:∃ W2,W2=w2.alloc (kzC u.name x1 u.uses.length xc1 u.data x2 u.parts.length xc2 x3 u.main.length xc3):=⟨_,rfl⟩
 rw [← hW2] at HN Ad ⊢;clear hW2;refine (zti _).mono ?_;rintro e w5 ⟨rfl,h5⟩
 have Q3:qb W2 w5:=by rw [h5];exact Below.refl _ _
 clear h5;go_wp2_with fail;refine (z05 w5).mono ?_;rintro e w6 ⟨u',z1,d1,z2,d2,z3,d3,z4,d4,rfl,hM,AK⟩;have Q2:=thenB Q3 AK;obtain rfl:u' = .agg #[.string ⟨#[116,111,112]⟩,.slice z1 1 d1,.slice z2 0 d2,.slice z3 0 d3,.slice z4 3 d4]:=hM.val;have HM:=hid hM;have Co:=hid Q2;clear hM Q2 AK Q3;go_wp2_with fail
 obtain ⟨W6,hW6⟩:∃ W6,W6=w6.alloc (kzG ⟨#[116,111,112]⟩ z1 1 d1 z2 0 d2 z3 0 d3 z4 3 d4):=⟨_,rfl⟩
 have NP:qb w6 W6:=by rw [hW6];exact al1 _ _
 have hB:=thenB Co.out NP;have KU:=hid (thenB Ad.out hB);have KT:=hid (HN.out.later hB)
 have IJ:Hid (W6.heap[w6.heap.size]? = some (.cells #[.string ⟨#[116,111,112]⟩,.slice z1 1 d1,.slice z2 0 d2,.slice z3 0 d3,.slice z4 3 d4] 27 (0,0))/\MoAt W6 Tt zm0 (.agg #[.string ⟨#[116,111,112]⟩,.slice z1 1 d1,.slice z2 0 d2,.slice z3 0 d3,.slice z4 3 d4]) z1 d1 z2 d2 z3 d3 z4 d4):=⟨by rw [hW6];exact heap_newP _ _,HM.out.later NP⟩
 rw [← hW6];clear hW6 NP hB Co Ad HM HN
 rename_i K hK
 have TAIL:∀ {W9:World} {b7:Nat} {y1 y2 y3:OA} {F7 F6 F5:Nat} {t7 t8 t9 Pa P9 P8 P7 P6 P5 P4 P3 OZ OY OX t21 OW OV OU OT OS:Value},qb w W9->UnIn W9 w2.heap.size u x1 xc1 x2 xc2 x3 xc3->UnIn W9 b7 t y1 F7 y2 F6 y3 F5->K { tmps:=#[qs,pq w2.heap.size 0,qi 0,pq w6.heap.size 0,qi 0,pq b7 0,qi 0,t7,t8,t9,Pa,P9,P8,P7,P6,P5,P4,P3,OZ,OY,OX,t21,OW,OV,OU,OT,OS],defers:=[] } W9:=by
  intro W9 b7 y1 y2 y3 F7 F6 F5 t7 t8 t9 Pa P9 P8 P7 P6 P5 P4 P3 OZ OY OX t21 OW OV OU OT OS BL h1 h2;have B7:=hid BL;have H1:=hid h1;have H2:=hid h2;obtain ⟨q0,q1,q2,q3,q4⟩:=yah h1.blk;obtain ⟨r0,r1,r2,r3,r4⟩:=yah h2.blk;have qz:=lt_of_heap h1.blk;have rz:=lt_of_heap h2.blk;clear BL h1 h2 KU KT IJ;refine hK _ _ ?_;clear hK;go_wp2_with fail;have NO:=al1 W9 (.cells #[.string u.name,.slice x1 u.uses.length xc1,qi u.data,.slice x2 u.parts.length xc2,.slice x3 u.main.length xc3,.string t.name,.slice y1 t.uses.length F7,qi t.data,.slice y2 t.parts.length F6,.slice y3 t.main.length F5] 42);go_ret;refine ⟨(qa W9.heap.size 0),rfl,?_,thenB B7.out NO⟩;refine zca (Blk.new W9 _ _) ?_ (by simp [z30,Un.ds]) (by simp [z30,Un.ds])
  have e:z30 [u,t]=u.ds++t.ds:=by simp [z30]
  rw [e];have k1:=z87 xc1 xc2 xc3 QG.out.1 QG.out.2 (H1.out.ls.moves (zad.of_below NO _));have k2:=z87 F7 F6 F5 QH.out.1 QH.out.2 (H2.out.ls.moves (zad.of_below NO _));exact k1.append k2
 clear hK;have UY:=hid (zbc IJ.out.1 (bdrew W6));have As:=lt_of_heap IJ.out.1;have CW:=hid (fun (W:World) (hW:qb W6 W)=>yah (zbc IJ.out.1 hW))
 go_region_held (fun W=>W.cell? (qa w6.heap.size 0)=some (.string ⟨#[116,111,112]⟩)/\W.cell? (qa w6.heap.size 1)=some (.slice z1 1 d1)/\W.cell? (qa w6.heap.size 2)=some (.slice z2 0 d2)/\W.cell? (qa w6.heap.size 3)=some (.slice z3 0 d3)/\W.cell? (qa w6.heap.size 4)=some (.slice z4 3 d4))
  (first | with_reducible exact CW.out _ Bb.out | with_reducible exact CW.out _ (thenB Bb.out (al1 _ _)) | with_reducible exact CW.out _ (zd6 Bb.out ae _ _ _ _ _) | with_reducible exact CW.out _ BF.out | with_reducible exact CW.out _ (thenB BF.out (al1 _ _)) | with_reducible exact CW.out _ (thenB BF.out (bl2 _ _ _)) | with_reducible exact CW.out _ (bdrew _) | with_reducible exact CW.out _ (zbg _ _) | with_reducible exact CW.out _ (thenB (bdrew _) (al1 _ _)))
  (first
  | (go_at_call 57;refine (zt5 _).mono ?_;rintro e w7 ⟨ad,cp,rfl,hD,AR⟩;have OJ:=hid hD;(first | (with_reducible have BF:=hid (thenB (bdrew W6) AR)) | (have Qb:=hid (zbc (yai W6 _) AR);have BF:=hid (thenB (zbg W6 _) AR)));have Ja:=BF.out.size;clear hD AR)
  | (go_at_call 21;(with_reducible refine (HT.out _ _ _ _ _ _ _ _ _ _ (IJ.out.2.later (thenB BF.out (al1 _ _))) _ _ (zp1 OJ.out _)).mono ?_);rintro e w8 ⟨y1,F7,y2,F6,y3,F5,rfl,hC,AW⟩;have Dt:=hid hC;have Bb:=hid (thenB BF.out (thenB (al1 _ _) AW));(first | (with_reducible refine And.elim ?_ (zvz (zbc (zbc Qb.out (al1 _ _)) AW));intro e0 B5;have KJ:=hid (zbc (zbc Qb.out (al1 _ _)) AW);obtain ⟨e1,e2,e3,e4,ef,EW⟩:=B5) | skip);clear hC AW)
  | (go_at_call 21;(with_reducible refine (HT.out _ _ _ _ _ _ _ _ _ _ (IJ.out.2.later (thenB BF.out (bl2 _ _ _))) _ _ ((zp1 OJ.out _).later (al1 _ _))).mono ?_);rintro e w8 ⟨y1,F7,y2,F6,y3,F5,rfl,hC,AW⟩;have Dt:=hid hC;have Bb:=hid (thenB BF.out (thenB (bl2 _ _ _) AW));(refine And.elim ?_ (zvz (zbc (z85 w7 _ _) AW));intro e0 B5;have KJ:=hid (zbc (z85 w7 _ _) AW);obtain ⟨e1,e2,e3,e4,ef,EW⟩:=B5);clear hC AW)
  | (go_at_call 21;(with_reducible refine (HT.out _ _ _ _ _ _ _ _ _ _ (IJ.out.2.later (thenB BF.out (bl2 _ _ _))) _ _ (z06 OJ.out _ _)).mono ?_);rintro e w8 ⟨y1,F7,y2,F6,y3,F5,rfl,hC,AW⟩;have Dt:=hid hC;have Bb:=hid (thenB BF.out (thenB (bl2 _ _ _) AW));(refine And.elim ?_ (zvz (zbc (zab (heap_newP w7 _)) AW));intro e0 B5;have KJ:=hid (zbc (zab (heap_newP w7 _)) AW);obtain ⟨e1,e2,e3,e4,ef,EW⟩:=B5);clear hC AW))
 . show K _ _
   exact TAIL (thenB KU.out (thenB Bb.out (al1 w8 _))) (KT.out.later (thenB Bb.out (al1 w8 _))) (Dt.out.new F7 F6 F5 42 rfl)
 . show K _ _
   exact TAIL (thenB KU.out (zd6 Bb.out (b:=w7.heap.size+1) ae _ _ _ _ _)) (KT.out.later (zd6 Bb.out (b:=w7.heap.size+1) ae _ _ _ _ _)) (Dt.out.set F7 F6 F5 KJ.out (by simp<;>omega))
 . show K _ _
   exact TAIL (thenB KU.out (zd6 Bb.out (b:=w7.heap.size) ae _ _ _ _ _)) (KT.out.later (zd6 Bb.out (b:=w7.heap.size) ae _ _ _ _ _)) (Dt.out.set F7 F6 F5 KJ.out (by simp<;>omega))
 . show K _ _
   exact TAIL (thenB KU.out (zd6 Bb.out (b:=W6.heap.size) ae _ _ _ _ _)) (KT.out.later (zd6 Bb.out (b:=W6.heap.size) ae _ _ _ _ _)) (Dt.out.set F7 F6 F5 KJ.out (by simp<;>omega))
theorem z4f:D.fines zt3.ds:=zky _ ah
theorem z4g:D.fines zt4.ds:=zky _ ah
theorem z07 {n k:Nat} (h:n=k) (hk:k<=maxLen):n<=maxLen:=h ▸ hk
theorem zt7 (w:World) :
 qc 75 #[] w fun e w'=>∃ a,e = .returned (.slice (some a) 2 2)/\DAt w' Tt (some a) 2 (z30 [zt3,zt4])/\qb w w':=
 zt6 zt3 zt4 z68 z69 z4f z4g (z07 (k:=3) ah aq) (z07 (k:=3) ah aq) w
def zrz:Ob:=zqa zt3
theorem z7b:zxv zt3 = .ok zrz:=ah
theorem DAt.ints {w:World} {A:Nat->Prop} {a:OA} {n:Nat} {ds:List D} (h:DAt w A a n ds) (hn:0<n):∃ b off,a=some (qa b off)/\b<w.heap.size/\∀ (j:Nat) (k:Int),ds[j]? = some (.int k)->w.cell? ⟨b,off+j,none⟩=some (qi k):=by
 obtain ⟨b,off,ha,hb,hc⟩:=h.cell hn;refine ⟨b,off,ha,hb,fun j k hj=>?_⟩;obtain ⟨v,hv,hd⟩:=hc j _ hj;exact jD
structure Cob (w:World) (b3 o3 b4 o4 b5 o5:Nat):Prop where
 l3:b3<w.heap.size
 c0:w.cell? ⟨b3,o3+12,none⟩=some (qi 12)
 c1:w.cell? ⟨b3,o3+13,none⟩=some (qi 15)
 c2:w.cell? ⟨b3,o3+14,none⟩=some (qi 0)
 c3:w.cell? ⟨b3,o3+15,none⟩=some (qi 16)
 l4:b4<w.heap.size
 f0:w.cell? (qa b4 o4)=some (qi 4)
 f1:w.cell? ⟨b4,o4+1,none⟩=some (qi 1)
 f2:w.cell? ⟨b4,o4+2,none⟩=some (qi 0)
 f3:w.cell? ⟨b4,o4+3,none⟩=some (qi 6)
 f4:w.cell? ⟨b4,o4+4,none⟩=some (qi 3)
 f5:w.cell? ⟨b4,o4+5,none⟩=some (qi 0)
 en:DAt w Tt (some (qa b5 o5)) 1 (zgf [0])
theorem Cob.later {w w':World} {b3 o3 b4 o4 b5 o5:Nat} (h:Cob w b3 o3 b4 o4 b5 o5) (hb:qb w w'):Cob w' b3 o3 b4 o4 b5 o5:=
 have k3:∀ j,w'.cell? (qa b3 j)=w.cell? (qa b3 j):=fun j=>hb.cell (p:=(qa b3 j)) h.l3
 have k4:∀ j,w'.cell? (qa b4 j)=w.cell? (qa b4 j):=fun j=>hb.cell (p:=(qa b4 j)) h.l4
 ⟨vai h.l3 hb.size,(k3 _).trans h.c0,(k3 _).trans h.c1,(k3 _).trans h.c2,(k3 _).trans h.c3,vai h.l4 hb.size,(k4 _).trans h.f0,(k4 _).trans h.f1,(k4 _).trans h.f2,(k4 _).trans h.f3,(k4 _).trans h.f4,(k4 _).trans h.f5,h.en.later hb⟩
def z88 (l:List Ob):List D:=l.flatMap Ob.ds
structure ObAt (w:World) (b off:Nat) (o:Ob) (x1:OA) (y1:Nat) (x3:OA) (y3:Nat) (x4:OA) (y4:Nat) (x5:OA) (y5:Nat):Prop where
 lt:b<w.heap.size
 c0:w.cell? (qa b off)=some (.string o.name)
 c1:w.cell? ⟨b,off+1,none⟩=some (.slice x1 o.uses.length y1)
 c2:w.cell? ⟨b,off+2,none⟩=some (qi o.data)
 c3:w.cell? ⟨b,off+3,none⟩=some (.slice x3 o.code.length y3)
 c4:w.cell? ⟨b,off+4,none⟩=some (.slice x4 o.fixes.length y4)
 c5:w.cell? ⟨b,off+5,none⟩=some (.slice x5 o.entries.length y5)
 c6:w.cell? ⟨b,off+6,none⟩=some (qi o.main)
 ov:OvAt w o x1 x3 x4 x5
theorem DAt.ob {w:World} {a:OA} {l:List Ob} (h:DAt w Tt a l.length (z88 l)) (i:Nat) (hi:i<l.length):∃ b off x1 y1 x3 y3 x4 y4 x5 y5,a=some (qa b off)/\ObAt w b (off+i*7) l[i] x1 y1 x3 y3 x4 y4 x5 y5:=by
 obtain ⟨b,off,ha,hb,hc⟩:=h.cell ae;generalize hx:l[i]=x;obtain ⟨name,uses,data,code,fixes,entries,main⟩:=x
 have g:∀ j d,j<7->(Ob.mk name uses data code fixes entries main).ds[j]? = some d->∃ v,w.cell? ⟨b,off+i*7+j,none⟩=some v/\zdg w Tt d v:=fun j d hj hd=>by
  rw [vbn];exact hc (i*7+j) d ((zcp Ob.ds 7 (fun _=>rfl) l i hi j hj).trans bJ)
 obtain ⟨v0,q0,d0⟩:=g 0 (.str name) ae rfl;obtain ⟨v1,q1,d1⟩:=g 1 (.list uses.length (zak uses)) ae rfl;obtain ⟨v2,q2,d2⟩:=g 2 (.int data) ae rfl;obtain ⟨v3,q3,d3⟩:=g 3 (.list code.length (zxw code)) ae rfl;obtain ⟨v4,q4,d4⟩:=g 4 (.list fixes.length (z4r fixes)) ae rfl;obtain ⟨v5,q5,d5⟩:=g 5 (.list entries.length (zgf entries)) ae rfl;obtain ⟨v6,q6,d6⟩:=g 6 (.int main) ae rfl;obtain ⟨rfl,w0⟩:=zdh d0;obtain ⟨x1,y1,rfl,h1⟩:=za1 d1;obtain ⟨rfl,w2⟩:=za4 d2;obtain ⟨x3,y3,rfl,h3⟩:=za1 d3;obtain ⟨x4,y4,rfl,h4⟩:=za1 d4;obtain ⟨x5,y5,rfl,h5⟩:=za1 d5;obtain ⟨rfl,w6⟩:=za4 d6;exact ⟨b,off,x1,y1,x3,y3,x4,y4,x5,y5,ha,hb,q0,q1,q2,q3,q4,q5,q6,w0,h1,w2,h3,h4,h5,w6⟩
def yaj (w:World) (a:OA) (n:Nat):Prop:=∀ b off,a=some (qa b off)->∀ i,i<n->∃ x k y,w.cell? ⟨b,off+i*7+1,none⟩=some (.slice x k y)/\k<=y
def zmc (w:World) (a:OA) (l:List Ob):Prop:=DAt w Tt a l.length (z88 l)/\yaj w a l.length
theorem zmc.later {w w':World} {a:OA} {l:List Ob} (h:zmc w a l) (hb:qb w w'):zmc w' a l:=by
 refine ⟨h.1.later hb,fun b off ha i hi=>?_⟩;obtain ⟨x,k,y,hc,hk⟩:=h.2 b off ha i hi;obtain ⟨b',BN,_,_,_,_,_,_,_,_,Cr,hO⟩:=DAt.ob (l:=l) h.1 i hi;rw [ha] at Cr
 cases Cr
 exact ⟨x,k,y,(hb.cell (p:=⟨b,off+i*7+1,none⟩) hO.lt).trans hc,hk⟩
theorem zmc.ob {w:World} {a:OA} {l:List Ob} (h:zmc w a l) (i:Nat) (hi:i<l.length):∃ b off x1 y1 x3 y3 x4 y4 x5 y5,a=some (qa b off)/\ObAt w b (off+i*7) l[i] x1 y1 x3 y3 x4 y4 x5 y5/\l[i].uses.length<=y1:=by
 obtain ⟨b,off,x1,y1,x3,y3,x4,y4,x5,y5,ha,hO⟩:=DAt.ob h.1 i hi;obtain ⟨x,k,y,hc,hk⟩:=h.2 b off ha i hi;have h1:=hO.c1;rw [hc] at h1;cases h1;exact ⟨b,off,x1,y1,x3,y3,x4,y4,x5,y5,ha,hO,hk⟩
theorem z08 {w:World} {o:Ob} {x1 x3 x4 x5:OA} (y1 y3 y4 y5:Nat) (h:OvAt w o x1 x3 x4 x5):zaq w Tt o.ds [.string o.name,.slice x1 o.uses.length y1,qi o.data,.slice x3 o.code.length y3,.slice x4 o.fixes.length y4,.slice x5 o.entries.length y5,qi o.main]:=by
 unfold Ob.ds;exact .cons (ze7 h.wn) (.cons h.uses.val (.cons (zdt h.wd) (.cons h.code.val (.cons h.fixes.val (.cons h.entries.val (.cons (zdt h.wm) .nil))))))
theorem z7c {w:World} {o p:Ob} {x1 x3 x4 x5 u1 u3 u4 u5:OA} (y1 y3 y4 y5 v1 v3 v4 v5:Nat) (h:OvAt w o x1 x3 x4 x5) (k:OvAt w p u1 u3 u4 u5) (h1:o.uses.length<=y1) (k1:p.uses.length<=v1) (t:TypeId) :
 zmc (w.alloc (.cells #[.string o.name,.slice x1 o.uses.length y1,qi o.data,.slice x3 o.code.length y3,.slice x4 o.fixes.length y4,.slice x5 o.entries.length y5,qi o.main,.string p.name,.slice u1 p.uses.length v1,qi p.data,.slice u3 p.code.length v3,.slice u4 p.fixes.length v4,.slice u5 p.entries.length v5,qi p.main] t)) (some (qa w.heap.size 0)) [o,p]:=by
 have hb:=Blk.new w #[.string o.name,.slice x1 o.uses.length y1,qi o.data,.slice x3 o.code.length y3,.slice x4 o.fixes.length y4,.slice x5 o.entries.length y5,qi o.main,.string p.name,.slice u1 p.uses.length v1,qi p.data,.slice u3 p.code.length v3,.slice u4 p.fixes.length v4,.slice u5 p.entries.length v5,qi p.main] t
 have e:z88 [o,p]=o.ds++p.ds:=by simp [z88]
 refine ⟨zca hb ?_ (by rw [e];simp [Ob.ds]) (by rw [e];simp [Ob.ds]),fun b off ha i hi=>?_⟩
 . rw [e]
   have m:zad w Tt (w.alloc (.cells #[.string o.name,.slice x1 o.uses.length y1,qi o.data,.slice x3 o.code.length y3,.slice x4 o.fixes.length y4,.slice x5 o.entries.length y5,qi o.main,.string p.name,.slice u1 p.uses.length v1,qi p.data,.slice u3 p.code.length v3,.slice u4 p.fixes.length v4,.slice u5 p.entries.length v5,qi p.main] t)) Tt:=⟨aA,fun b hb _=>⟨trivial,(al1 _ _).block b hb⟩⟩
   exact (z08 y1 y3 y4 y5 (h.later (al1 _ _))).append (z08 v1 v3 v4 v5 (k.later (al1 _ _)))
 . cases ha
   have Dl:i=0\/i=1:=by simp at hi;omega
   rcases Dl with rfl | rfl
   . exact ⟨x1,_,y1,hb.cell 1 _ rfl,h1⟩
   . exact ⟨u1,_,v1,hb.cell 8 _ rfl,k1⟩
def zp2:Ob:=zqa zt4
theorem z7d:zxv zt4 = .ok zp2:=ah
theorem zt8 (p q:Un) (o r:Ob) (ho:zxv p = .ok o) (hr:zxv q = .ok r) (hP:∀ w:World,qc 75 #[] w fun e w'=>∃ a,e = .returned (.slice (some a) 2 2)/\DAt w' Tt (some a) 2 (z30 [p,q])/\qb w w') (w:World) :
 qc 85 #[] w fun e w'=>∃ a,e = .returned (.slice (some a) 2 2)/\zmc w' (some a) [o,r]/\qb w w':=by
 have HP:=hid hP;have Lj:=hid (fun (W:World) (x1:OA) (y1:Nat) (x2:OA) (y2:Nat) (x3:OA) (y3:Nat) (hU:UvAt W p x1 y1 x2 y2 x3 y3)=>z5c ho hU);have To:=hid (fun (W:World) (x1:OA) (y1:Nat) (x2:OA) (y2:Nat) (x3:OA) (y3:Nat) (hU:UvAt W q x1 y1 x2 y2 x3 y3)=>z5c hr hU);clear hP ho hr;go_enter Tryz.func85,Tryz.ntmps85;go_wp2_with fail;refine (HP.out _).mono ?_;rintro e w1 ⟨a,rfl,hD,A6⟩;have A8:=hid A6;obtain ⟨b,off,a1,k1,a2,k2,a3,k3,ha,hx⟩:=(DAt.un (l:=[p,q]) hD) 0 aA;obtain rfl:=vab ha;have HU:=hid hx.uv;simp only [vbm,vbk,vbt] at hx HU;obtain ⟨Av,z0,z1,z2,z3,z4,_,_,_,_,_⟩:=hx;clear hD A6 ha;go_wp2_with fail;refine (Lj.out _ _ _ _ _ _ _ HU.out).mono ?_;rintro e w2 ⟨x1,y1,x3,y3,x4,y4,x5,y5,rfl,hO,Ed,Ab⟩
 have NN:=al1 w2 (oC o x1 y1 x3 y3 x4 y4 x5 y5);have Ad:=hid (thenB A8.out (thenB Ab NN));have HO:=hid (hO.later NN);have HC:=hid Ed;have Do:=hid (heap_newP w2 (oC o x1 y1 x3 y3 x4 y4 x5 y5));clear hO Ed Ab NN Av z0 z1 z2 z3 z4 HU A8;go_wp2_with fail
 obtain ⟨W2,hW2⟩:∃ W2,W2=w2.alloc (oC o x1 y1 x3 y3 x4 y4 x5 y5):=⟨_,rfl⟩
 rw [← hW2] at Ad HO Do ⊢;clear hW2;refine (HP.out _).mono ?_;rintro e w3 ⟨a,rfl,hD,A9⟩;have Af:=hid (thenB Ad.out A9);have D9:=hid (HO.out.later A9);have CX:=hid (zbc Do.out A9);obtain ⟨b,off,a1,k1,a2,k2,a3,k3,ha,hx⟩:=(DAt.un (l:=[p,q]) hD) 1 aA;obtain rfl:=vab ha;have HU:=hid hx.uv;simp only [vbu,vbm,vdt] at hx HU;obtain ⟨Av,z0,z1,z2,z3,z4,_,_,_,_,_⟩:=hx;clear hD A9 ha Ad HO Do;go_wp2_with fail;refine (To.out _ _ _ _ _ _ _ HU.out).mono ?_;rintro e w4 ⟨u1,v1,u3,v3,u4,v4,u5,v5,rfl,hR,hcr,Aj⟩;have Ap:=hid (thenB Af.out Aj);have EH:=hid (D9.out.later Aj);have AU:=hid hR;have JC:=hid hcr;have Ei:=hid (zbc CX.out Aj);clear hR hcr Aj Av z0 z1 z2 z3 z4 HU Af D9 CX;obtain ⟨q0,q1,q2,q3,q4,q5,q6,qz⟩:=zam Ei.out
 go_wp2_with fail;go_ret;refine ⟨_,rfl,?_,thenB Ap.out (bl2 _ _ _)⟩;have:=z7c y1 y3 y4 y5 v1 v3 v4 v5 (EH.out.later (al1 w4 (oC r u1 v1 u3 v3 u4 v4 u5 v5))) (AU.out.later (al1 w4 (oC r u1 v1 u3 v3 u4 v4 u5 v5))) HC.out JC.out 62;simp only [vcn] at this;exact this
theorem zt9 (w:World) :
 qc 85 #[] w fun e w'=>∃ a,e = .returned (.slice (some a) 2 2)/\zmc w' (some a) [zrz,zp2]/\qb w w':=
 zt8 zt3 zt4 zrz zp2 z7b z7d zt7 w
theorem zdj {B:Nat} {a w:World} (h:Below B a w) (m:Nat):Below B a (w.drewN m):=⟨h.os,h.tape,h.output,h.size,h.block⟩
end Go.Proofs.YtndkhgakfodldaaGreatDoor

namespace Go.Proofs.YtndkhgakfodldaaGreatDoor
set_option maxRecDepth 100000
set_option maxHeartbeats 800000
open Go.RowKit Go.Shelf
set_option linter.unusedSimpArgs false
set_option linter.unusedVariables false
structure Wk where
 au:OA
 cu:Nat
 an:OA
 cn:Nat
 ab:OA
 cb:Nat
 D:Nat
 cd:Nat
 S:Nat
def natI (l:List Nat):List Int:=l.map Int.ofNat
def zua (l:List (List Nat)):List D:=l.map fun r=>.list r.length (zgf (natI r))
abbrev wC (cx:Cx) (K:Wk) (ai:OA) (ci:Nat) (vo:Value) (s:Sw) (e:Int):Array Value:=#[.slice K.au cx.us.length K.cu,.slice K.an cx.near.length K.cn,.slice K.ab cx.beg.length K.cb,.slice (some (qa K.D 0)) s.data.length K.cd,.slice ai s.inp.length ci,vo,qi cx.lim,qi s.ticks,qi s.calls,qi e]
structure Ro (w:World) (B base:Nat) (cx:Cx) (K:Wk):Prop where
 us:DAt w (·<base) K.au cx.us.length (z30 cx.us)
 near:DAt w (fun b=>b<K.S/\b≠B/\b≠K.D) K.an cx.near.length (zua cx.near)
 beg:DAt w (fun b=>b<K.S/\b≠B/\b≠K.D) K.ab cx.beg.length (zgf cx.beg)
 lB:base<=B
 lD:base<=K.D
 BS:B<K.S
 DS:K.D<K.S
 BD:B≠K.D
 zS:K.S<=w.heap.size
theorem Ro.moves {w w':World} {B base:Nat} {cx:Cx} {K:Wk} (h:Ro w B base cx K) (hz:w.heap.size<=w'.heap.size) (hk:∀ b,b<K.S->b≠B->b≠K.D->w'.heap[b]? = w.heap[b]?):Ro w' B base cx K:=
 have h1:=h.lB;have h2:=h.lD;have h3:=h.BS
 ⟨h.us.moves ⟨hz,fun b _ hl=>⟨hl,hk b ae ae ae⟩⟩,h.near.moves ⟨hz,fun b _ hl=>⟨hl,hk b hl.1 hl.2.1 hl.2.2⟩⟩,h.beg.moves ⟨hz,fun b _ hl=>⟨hl,hk b hl.1 hl.2.1 hl.2.2⟩⟩,h.lB,h.lD,h.BS,h.DS,h.BD,vbd h.zS hz⟩
structure Wd (w:World) (B base:Nat) (cx:Cx) (K:Wk) (vo:Value) (s:Sw) (e:Int):Prop where
 blk:∃ ai ci,w.heap[B]? = some (.cells (wC cx K ai ci vo s e) 128 (0,0))/\DAt w (·<base) ai s.inp.length (zgf s.inp)/\s.inp.length<=ci
 data:w.heap[K.D]? = some (.cells (intV s.data).toArray 3 (0,0))
 out:w.ownsRow K.S 3 1 vo s.out.length (intV s.out)
 ro:Ro w B base cx K
 cd:K.cd=s.data.length
 dl:s.data.length<=512
 tl:s.ticks<=cx.lim
 tm:cx.lim<=1000000
 cl:s.calls<=24
 ol:s.out.length<=200
theorem Wd.oB {w:World} {B base:Nat} {cx:Cx} {K:Wk} {vo:Value} {s:Sw} {e:Int} (h:Wd w B base cx K vo s e):vo.ownBlock≠some B:=fun x=>by have:=(h.out.lt B x).1;have:=h.ro.BS;omega
theorem Wd.oD {w:World} {B base:Nat} {cx:Cx} {K:Wk} {vo:Value} {s:Sw} {e:Int} (h:Wd w B base cx K vo s e):vo.ownBlock≠some K.D:=fun x=>by have:=(h.out.lt K.D x).1;have:=h.ro.DS;omega
structure Fm (B D:Nat) (vo vo':Value) (w w':World):Prop where
 os:w'.os=w.os
 tape:w'.tape=w.tape
 output:w'.output=w.output
 size:w.heap.size<=w'.heap.size
 block:∀ b,b<w.heap.size->b≠B->b≠D->vo.ownBlock≠some b->w'.heap[b]? = w.heap[b]?
 own:∀ k,vo'.ownBlock=some k->k<w.heap.size->vo.ownBlock=some k
theorem Fm.refl (B D:Nat) (vo:Value) (w:World):Fm B D vo vo w w:=⟨rfl,rfl,rfl,vaa _,fun _ _ _ _ _=>rfl,fun _ h _=>h⟩
theorem Fm.trans {B D:Nat} {v1 v2 v3:Value} {a b c:World} (h:Fm B D v1 v2 a b) (k:Fm B D v2 v3 b c):Fm B D v1 v3 a c:=
 ⟨k.os.trans h.os,k.tape.trans h.tape,k.output.trans h.output,vbd h.size k.size,fun x hx h1 h2 h3=>(k.block x (vai hx h.size) h1 h2 (fun e=>h3 (h.own x e hx))).trans (h.block x hx h1 h2 h3),fun x e hx=>h.own x (k.own x e (vai hx h.size)) hx⟩
theorem Fm.grown {B D:Nat} {vo:Value} {w w':World} (h:w.grownBy w' (some B)):Fm B D vo vo w w':=⟨h.os,h.tape,h.output,h.size,fun b hb h1 _ _=>h.block b hb (fun e=>h1 (vab e)),fun _ h _=>h⟩
theorem Fm.below {B D:Nat} {vo:Value} {w w':World} (h:qb w w'):Fm B D vo vo w w':=⟨h.os,h.tape,h.output,h.size,fun b hb _ _ _=>h.block b hb,fun _ h _=>h⟩
abbrev z7e (c:Int):List PanicEntry:=[{ v:=.iface 3 (qi c),recovered:=false }]
def Sr {α:Type} (AE:α->Value) (B base:Nat) (cx:Cx) (K:Wk) (w:World) (vo:Value) (r:Rr α) (e:Ending) (w':World):Prop:=
 ∃ vo',Fm B K.D vo vo' w w'/\((∃ a s,r = .ok a s/\e = .returned (AE a)/\Wd w' B base cx K vo' s 0)\/(∃ c s,r = .stop c s/\e = .panicked (z7e c)/\Wd w' B base cx K vo' s c))
def ybh (n:Int):Value:=qi n
def yak (_:Unit):Value:=.tuple #[]
theorem zfi {w:World} {b:Nat} {x0 x1 x2 x3 x4 x5 x6 x7 x8 x9:Value} {t:TypeId} (h:w.heap[b]? = some (.cells #[x0,x1,x2,x3,x4,x5,x6,x7,x8,x9] t (0,0))) :
 w.cell? (qa b 0)=some x0/\w.cell? (qa b 1)=some x1/\w.cell? (qa b 2)=some x2/\w.cell? (qa b 3)=some x3/\w.cell? (qa b 4)=some x4/\w.cell? (qa b 5)=some x5/\w.cell? (qa b 6)=some x6/\w.cell? (qa b 7)=some x7/\w.cell? (qa b 8)=some x8/\w.cell? (qa b 9)=some x9/\b<w.heap.size/\∀ j,w.frozen? (qa b j)=false:=by
 refine ⟨?_,?_,?_,?_,?_,?_,?_,?_,?_,?_,lt_of_heap h,fun j=>veq h j⟩<;>(rw [vep h];rfl)
theorem zet {w:World} {B i:Nat} {u:Value}:w.grownBy (w.setCell (qa B i) u) (some B):=⟨rfl,rfl,rfl,aA,fun k _ Ai=>heap_set_ne (fun e=>Ai (by rw [e])) u⟩
theorem Wd.put {w:World} {B base:Nat} {cx:Cx} {K:Wk} {vo:Value} {s s':Sw} {e e':Int} {i:Nat} {u:Value} (h:Wd w B base cx K vo s e) (hs:∀ ai ci,(wC cx K ai ci vo s e).setIfInBounds i u=wC cx K ai ci vo s' e') (h1:s'.data=s.data) (h2:s'.inp=s.inp) (h3:s'.out=s.out) (h4:s'.ticks<=cx.lim) (h5:s'.calls<=24):Wd (w.setCell (qa B i) u) B base cx K vo s' e':=by
 obtain ⟨ai,ci,hb,hi,hc⟩:=h.blk;have h6:=h.ro.lB;refine ⟨⟨ai,ci,?_,?_,by rw [h2];exact hc⟩,?_,?_,h.ro.moves aA (fun b _ hn _=>heap_set_ne (by show b≠B;exact hn) u),by rw [h1];exact h.cd,by rw [h1];exact h.dl,h4,h.tm,h5,by rw [h3];exact h.ol⟩
 . rw [heap_set hb u,hs]
 . rw [h2]
   exact hi.moves ⟨aA,fun b _ A0=>⟨A0,heap_set_ne (by show b≠B;omega) u⟩⟩
 . rw [h1]
   exact (heap_set_ne dy u).trans h.data
 . rw [h3]
   exact zaf h.out (fun k hk=>heap_set_ne (fun e=>h.oB eG) u)
theorem stop_any (B base:Nat) (cx:Cx) (K:Wk) (vo:Value) (s:Sw) (c:Int) (w:World) (h:Wd w B base cx K vo s 0) :
 qc 167 #[pq B 0,qi c] w fun e w'=>e = .panicked (z7e c)/\w.grownBy w' (some B)/\Wd w' B base cx K vo s c:=by
 obtain ⟨ai,ci,hb,_,_⟩:=h.blk;obtain ⟨q0,q1,q2,q3,q4,q5,q6,q7,q8,q9,qz,qf⟩:=zfi hb;have HP:=hid (h.put (i:=9) (u:=qi c) (s':=s) (e':=c) (fun _ _=>rfl) rfl rfl rfl h.tl h.cl);clear h hb;go_enter Tryz.func167,Tryz.ntmps167;go_wp2_with fail;exact ⟨rfl,rfl,zet,HP.out⟩
set_option maxHeartbeats 1600000
theorem Wd.below {w w':World} {B base:Nat} {cx:Cx} {K:Wk} {vo:Value} {s:Sw} {e:Int} (h:Wd w B base cx K vo s e) (hb:qb w w'):Wd w' B base cx K vo s e:=by
 obtain ⟨ai,ci,hB,hi,hc⟩:=h.blk;have hl:=lt_of_heap hB;exact ⟨⟨ai,ci,(hb.block _ hl).trans hB,hi.moves ⟨hb.size,fun b hx A0=>⟨A0,hb.block b hx⟩⟩,hc⟩,(hb.block _ (lt_of_heap h.data)).trans h.data,ownsRow_later h.out hb,h.ro.moves hb.size (fun b h1 _ _=>hb.block b (vai h1 h.ro.zS)),h.cd,h.dl,h.tl,h.tm,h.cl,h.ol⟩
theorem bd (w:World) (m:Nat):qb w (w.drewN m):=zdj (Below.refl _ _) m
theorem tick_any (B base:Nat) (cx:Cx) (K:Wk) (vo:Value) (s:Sw) (w:World) (h:Wd w B base cx K vo s 0) :
 qc 166 #[pq B 0] w fun e w'=>Sr yak B base cx K w vo (zj9 cx.lim s) e w':=by
 obtain ⟨ai,ci,hb,_,_⟩:=h.blk;obtain ⟨q0,q1,q2,q3,q4,q5,q6,q7,q8,q9,qz,qf⟩:=zfi hb;have TT:=h.tl;have TS:=h.tm;have HW:=hid h;clear h hb
 by_cases ht:s.ticks=cx.lim
 . have HR:Hid (zj9 cx.lim s = .stop 3 s):=if_pos ht
   have HS:=hid (fun W (hW:qb w W)=>stop_any B base cx K vo s 3 W (HW.out.below hW))
   have RY:((s.ticks:Int) == (cx.lim:Int))=true:=by rw [ht];simp
   go_enter Tryz.func166,Tryz.ntmps166;go_wp2_with fail
   go_quiet ((fail))
   go_wp2_with fail;refine (HS.out _ (bd w _)).mono ?_;rintro e w1 ⟨rfl,hg,hw⟩;exact ⟨rfl,vo,(Fm.below (bd w _)).trans (Fm.grown hg),Or.inr ⟨3,s,HR.out,rfl,hw⟩⟩
 . have HR:Hid (zj9 cx.lim s = .ok () { s with ticks:=s.ticks+1 }):=if_neg ht
   have RY:((s.ticks:Int) == (cx.lim:Int))=false:=by rw [beq_eq_false_iff_ne];omega
   have HP:=hid (fun W (hW:qb w W)=>(HW.out.below hW).put (i:=7) (u:=qi ((s.ticks:Int)+1)) (s':={ s with ticks:=s.ticks+1 }) (e':=0) (fun _ _=>rfl) rfl rfl rfl (by show s.ticks+1<=cx.lim;omega) HW.out.cl);go_enter Tryz.func166,Tryz.ntmps166;go_wp2_with fail
   go_quiet ((fail))
   go_wp2_with fail;go_end0;exact ⟨vo,(Fm.below (bd w _)).trans (Fm.grown zet),Or.inl ⟨(),_,HR.out,rfl,HP.out _ (bd w _)⟩⟩
end Go.Proofs.YtndkhgakfodldaaGreatDoor

namespace Go.Proofs.YtndkhgakfodldaaGreatDoor
set_option maxRecDepth 100000
open Go.RowKit Go.Maps Go.WideMaps
set_option linter.unusedSimpArgs false
set_option linter.unusedVariables false
theorem z09:∀ l:List (L8),Fx.zgd l=false↔l.Nodup:=by
 apply Fx.zeq
 . exact ⟨fun _=>.nil,fun _=>rfl⟩
 . intro l s ih
   rw [Fx.zin,vat,ih,decide_eq_false_iff_not,vdj]
   constructor
   . rintro ⟨h1,h2⟩
     refine ⟨h1,aA,fun a ha b hb e=>?_⟩;rw [vcd.1 hb] at e;exact h2 (e ▸ ha)
   . rintro ⟨h1,_,h2⟩
     exact ⟨h1,fun hs=>h2 s hs s aA rfl⟩
set_option maxHeartbeats 12800000
theorem zv5 {α:Type} [DecidableEq α] (l:List α):l.Nodup↔∀ i (h:i<l.length),l[i] ∉ l.take i:=by
 rw [vda,List.pairwise_iff_getElem]
 constructor
 . intro h i hi hm
   obtain ⟨k,hk,e⟩:=vba hm;rw [vbg] at hk;rw [vdi] at e;exact h k i ae hi ae e
 . intro h i j hi hj Ub e
   exact h j hj (by rw [← e];exact List.mem_iff_getElem.2 ⟨i,by rw [vbg];omega,by rw [vdi]⟩)
theorem zub (l:List ByteArray):(Fx.zbi l).Nodup↔l.Nodup:=by
 unfold Fx.zbi;rw [vda,vda,List.pairwise_map]
 constructor
 . intro h;exact h.imp (fun hn e=>hn (by rw [e]))
 . intro h;exact h.imp (fun hn e=>hn (zi0 e))
def nmB (s:ByteArray):Bool:=Lx.zbw s.data.toList
theorem z1a (o:Ob):zd8 o=((o.name :: o.uses).all nmB && !Fx.zgd (Fx.zbi (o.name :: o.uses))):=by
 rw [vci]
 have hd:(!Fx.zgd (Fx.zbi (o.name :: o.uses)))=true↔(o.name :: o.uses).Nodup:=by
  rw [vdh,z09,zub]
 rw [vac,hd,vdr,vcp,vac,vas];unfold zd8;rw [vac,zan]
 have hu:∀ i (h:i<o.uses.length),zmn o i=true↔(nmB o.uses[i]=true/\o.uses[i]≠o.name/\o.uses[i] ∉ o.uses.take i):=fun i h=>by
  unfold zmn;rw [vad h];simp only [vac,vdh,decide_eq_false_iff_not];rw [show (Go.Lib.containsS (o.uses.take i) o.uses[i]=false)↔o.uses[i] ∉ o.uses.take i from by rw [← Go.Lib.containsS_iff];simp]
  rfl
 constructor
 . rintro ⟨h1,h2⟩
   refine ⟨⟨h1,fun s hs=>?_⟩,fun hm=>?_,(zv5 o.uses).2 fun i hi=>((hu i hi).1 (h2 i hi)).2.2⟩
   . obtain ⟨k,hk,rfl⟩:=vba hs
     exact ((hu k hk).1 (h2 k hk)).1
   . obtain ⟨k,hk,e⟩:=vba hm
     exact ((hu k hk).1 (h2 k hk)).2.1 e
 . rintro ⟨⟨h1,h2⟩,h3,h4⟩
   refine ⟨h1,fun i hi=>(hu i hi).2 ⟨h2 _ (vah hi),fun e=>h3 (e ▸ vah hi),(zv5 o.uses).1 h4 i hi⟩⟩
theorem z7f {w:World} {base g:Nat} {x:ByteArray} (h:w.heap[g]? = some (.cells #[.string x] 9)) (hb:base<=g):w.ownsRow base 9 1 (.slice (some (qa g 0)) 1 1) 1 (strV [x]):=
 ⟨rfl,Or.inr ⟨g,1,#[.string x],rfl,hb,h,vaa _,aq,rfl,rfl⟩⟩
theorem z7g {o:Ob} (hm:zgg o=false) (h:(zd8 o&&(zc6 o&&zd9 o))=false):oChk o=1:=by
 unfold oChk;rw [hm,h]
 rfl
theorem wi (n lo hi:Int) (b:Bool) (h:(decide (lo<=n)&&decide (n<=hi))=b) (w:World):qc 63 #[qi n,qi lo,qi hi] w fun e w'=>e = .returned (.bool b)/\w'=w:=by
 rw [← h];exact zdr n lo hi w
def inJ (n lo hi:Int):Bool:=decide (lo<=n)&&decide (n<=hi)
theorem z7h (n lo hi:Int) (w:World):qc 63 #[qi n,qi lo,qi hi] w fun e w'=>e = .returned (.bool (inJ n lo hi))/\w'=w:=zdr n lo hi w
theorem zv6 {o:Ob} {k:Nat} {fk fm:Int} (hk:k<o.code.length) (hc:o.code.length<=2048):zx5 o ⟨k,fk,fm⟩=true↔((1<=fk/\fk<=3)/\(0<=fm/\fm<=o.uses.length)/\(0<=o.code[k].a/\o.code[k].a<=2048)/\(fk=1->fm=0/\o.code[k].a<=o.code.length)):=by
 have ha:aAt o (k:Int)=o.code[k].a:=by unfold aAt;rw [vbq,vad hk]
 unfold zx5 okF;simp only [ha];generalize o.code[k].a=ca
 by_cases h1:fk=1
 . subst h1
   simp only [if_true,vac,decide_eq_true_eq]
   constructor
   . rintro ⟨x1,x2,x3,x4⟩
     exact ⟨ae,ae,ae,fun _=>ae⟩
   . rintro ⟨x1,x2,x3,x4⟩
     have x5:=x4 trivial;omega
 . rw [if_neg h1]
   by_cases h2:fk=2\/fk=3
   . rw [if_pos h2]
     simp only [vac,decide_eq_true_eq]
     constructor
     . rintro ⟨x1,x2,x3,x4⟩
       exact ⟨ae,ae,ae,fun e=>absurd e h1⟩
     . rintro ⟨x1,x2,x3,x4⟩
       clear x4;omega
   . rw [if_neg h2]
     constructor
     . intro h;cases h
     . rintro ⟨x1,x2,x3,x4⟩;clear x4;omega
theorem inb {n lo hi:Int} (h1:lo<=n) (h2:n<=hi):(decide (lo<=n)&&decide (n<=hi))=true:=by rw [decide_eq_true h1,decide_eq_true h2];rfl
theorem zxq {n lo hi:Int} (h:¬ (lo<=n/\n<=hi)):(decide (lo<=n)&&decide (n<=hi))=false:=by
 rw [vcz,decide_eq_false_iff_not,decide_eq_false_iff_not];omega
theorem zmd (o:Ob) (x1:OA) (y1:Nat) (x3:OA) (y3:Nat) (x4:OA) (y4:Nat) (x5:OA) (y5:Nat) (w:World) (hO:OvAt w o x1 x3 x4 x5) :
 qc 34 #[.agg #[.string o.name,.slice x1 o.uses.length y1,qi o.data,.slice x3 o.code.length y3,.slice x4 o.fixes.length y4,.slice x5 o.entries.length y5,qi o.main]] w fun e w'=>e = .returned (qi (oChk o))/\qb w w':=by
 have b1:=hO.uses.bound;have b3:=hO.code.bound;have b4:=hO.fixes.bound;have b5:=hO.entries.bound;have hX:=heap_newP w (kzD o.name x1 o.uses.length y1 o.data x3 o.code.length y3 x4 o.fixes.length y4 x5 o.entries.length y5 o.main);have DH:=al1 w (kzD o.name x1 o.uses.length y1 o.data x3 o.code.length y3 x4 o.fixes.length y4 x5 o.entries.length y5 o.main);generalize hW:w.alloc (kzD o.name x1 o.uses.length y1 o.data x3 o.code.length y3 x4 o.fixes.length y4 x5 o.entries.length y5 o.main)=W0 at *;have HX:=hid hX;have HO:=hid (hO.later DH);have Aw:=hid DH;have HM:Hid (zgg o=(decide (3<o.uses.length)||(decide (6<o.entries.length)||(decide (o.code.length<1)||decide (2048<o.code.length))))):=rfl;have Cb:=hid (fun (h:zgg o=true)=>(by unfold oChk;rw [h];rfl:oChk o=2));obtain ⟨q0,q1,q2,q3,q4,q5,q6,qz⟩:=zam hX;clear hO hX DH
 by_cases t1:3<o.uses.length
 . have HR:=hid (Cb.out (by rw [HM.out,decide_eq_true t1];rfl))
   have Dh:(3:Int)<o.uses.length:=ae
   go_enter Tryz.func34,Tryz.ntmps34;exact jq
 by_cases t2:6<o.entries.length
 . have HR:=hid (Cb.out (by rw [HM.out,decide_eq_true t2];simp))
   have Dh:¬ (3:Int)<o.uses.length:=ae
   have E0:(6:Int)<o.entries.length:=ae
   go_enter Tryz.func34,Tryz.ntmps34;exact jq
 have Dh:¬ (3:Int)<o.uses.length:=ae
 have E0:¬ (6:Int)<o.entries.length:=ae
 by_cases t3:1<=o.code.length/\o.code.length<=2048
 case neg=>
  have HR:=hid (Cb.out (by rw [HM.out];simp only [vef,decide_eq_true_eq];omega));have M7:=hid (fun W=>wi (o.code.length:Int) 1 2048 false (zxq ae) W);go_enter Tryz.func34,Tryz.ntmps34;go_wp2_with fail;refine (M7.out _).mono ?_;rintro e w' ⟨rfl,rfl⟩;exact jq
 have Mm:Hid (zgg o=false):=by show _=_;rw [HM.out];simp only [vat,decide_eq_false_iff_not];omega
 have HF:=hid (fun (h:(zd8 o&&(zc6 o&&zd9 o))=false)=>z7g Mm.out h);have M7:=hid (fun W=>wi (o.code.length:Int) 1 2048 true (inb ae ae) W)
 obtain ⟨T,hT⟩:∃ T:Int,T=(o.code.length:Int) - 1:=⟨_,rfl⟩
 have S6:IntKind.i64.wrap ((o.code.length:Int) - 1)=T:=by rw [hT];simp only [IntKind.wrap,IntKind.bits,IntKind.signed];simp;omega
 have HT:=hid hT;clear t1 t2 HM Cb hT;go_enter Tryz.func34,Tryz.ntmps34;go_wp2_with fail;refine (M7.out _).mono ?_;rintro e w' ⟨rfl,rfl⟩;obtain ⟨v4,w4,hr4,ho4,hg4⟩:=zcc w'.heap.size 22 (.slice (some (qa w'.heap.size 0)) 1 1) 1 (strV [o.name]) (z7f (heap_newP w' (.cells #[.string o.name] 9)) (vaa _)) o.uses x1 y1 (zdw (HO.out.later (al1 w' (.cells #[.string o.name] 9))).uses).1 ae aA;have Aj:Below w'.heap.size w' w4:=(al1 w' _).grown hg4 aA (fun k hk=>dw);rw [show strV [o.name]++strV o.uses=strV (o.name :: o.uses) from rfl,show 1+o.uses.length=(o.name :: o.uses).length from aF] at ho4;obtain ⟨a4,c4,rfl,hS4⟩:=ziz ho4;have AU:=hid hr4;have Ap:=hid Aj;have Qj:=hid hS4
 have T5:Hid (∀ s ∈ o.name :: o.uses,s.size<=maxLen):=fun s hs=>by
  rcases vby.1 hs with rfl | hs
  . exact HO.out.wn
  . exact (zdw HO.out.uses).2 s hs
 have Hp:=hid (z1a o);have KR:=hid (Fx.zr4 a4 c4 (o.name :: o.uses))
 have FS:(o.name :: o.uses).length<=4:=aF
 clear hr4 Aj ho4 hg4 hS4;generalize o.name :: o.uses=ns at *
 go_wp2_with (at_builtin;refine Lib.wpList_append_run _ rfl _ _ _ _ rfl _ _ rfl rfl _ w4 AU.out ?_)
 clear S6 hW M7 AU
 go_loopw [5] (fun i wr=>∃ j:Nat,j<=ns.length/\i=qi j/\(ns.take j).all nmB=true/\wr=w4) (fun i _=>ns.length - (intOf i).toNat)
 case atStart=>exact ⟨0,vaf _,rfl,rfl,rfl⟩
 case round=>
  obtain ⟨j,hj,rfl,A7,rfl⟩:=hrel;have HL:=hid A7;clear A7
  by_cases A0:j<ns.length
  . obtain ⟨b,off,rfl,Av,c0⟩:=Qj.out.place A0
    have Ho:=hid (zwf ns[j] wr (T5.out _ (vah A0)));have HA:=hid (fun (h:nmB ns[j]=true)=>(by rw [all_snoc ns nmB j A0,HL.out,h];rfl:(ns.take (j+1)).all nmB=true));have HR:=hid (fun (h:nmB ns[j]=false)=>HF.out (by rw [Hp.out,all_not ns nmB j A0 h];rfl));unfold nmB at HA HR;generalize ns[j]=x at *;go_wp2_with fail;refine Ho.out.mono ?_;rintro e w5 ⟨rfl,rfl⟩
    cases hn:Lx.zbw x.data.toList with
    | false=>
      have B9:=hid (HR.out hn);go_wp2_with fail;go_ret;exact ⟨cK,thenB Aw.out Ap.out⟩
    | true=>
      have TG:=hid (HA.out hn);go_wp2_with fail;go_roundw
      case rel=>exact ⟨j+1,ae,aR,TG.out,eT⟩
      case measure=>simp [intOf];omega
  . have HA : Hid (ns.all nmB=true):=zcx HL.out A0
    have L3:Hid (zd8 o = !Fx.zgd (Fx.zbi ns)):=by show _=_;rw [Hp.out,HA.out];rfl
    go_wp2_with fail;refine (KR.out wr Qj.out ae).mono ?_;rintro e w5 ⟨rfl,As⟩;have At:=hid (thenB Ap.out As);have Bv:=hid (thenB Aw.out At.out);clear As q0 q1 q2 q3 q4 q5 q6 qz;obtain ⟨q0,q1,q2,q3,q4,q5,q6,qz⟩:=zam (zbc HX.out At.out)
    cases hd:Fx.zgd (Fx.zbi ns) with
    | true=>
      have HR:=hid (HF.out (by rw [L3.out,hd];rfl));exact io
    | false=>
    have L2:Hid (zd8 o=true):=by show _=_;rw [L3.out,hd];rfl
    have Da:=hid (fun (h:(zc6 o&&zd9 o)=false)=>HF.out (by rw [L2.out,h];rfl));clear HF Hp L3 hd
    by_cases d1:0<=o.data/\o.data<=512
    case neg=>
     have HR:=hid (Da.out (by rw [show zc6 o=false from by unfold zc6 zqd;rw [decide_eq_false d1];simp];rfl));have KO:=hid (fun W=>wi o.data 0 512 false (zxq d1) W);clear d1;go_wp2_with fail;refine (KO.out _).mono ?_;rintro e w6 ⟨rfl,rfl⟩;exact io
    have KO:=hid (fun W=>wi o.data 0 512 true (inb d1.1 d1.2) W)
    by_cases d2:0<=o.main/\o.main<=T
    case neg=>
     have HR:=hid (Da.out (by rw [show zc6 o=false from by unfold zc6 zqd zbt;rw [decide_eq_false (p:=0<=o.main/\o.main<o.code.length) bR];simp];rfl));have M6:=hid (fun W=>wi o.main 0 T false (zxq d2) W);clear d1 d2;go_wp2_with fail;refine (KO.out _).mono ?_;rintro e w6 ⟨rfl,rfl⟩;go_wp2_with fail;refine (M6.out _).mono ?_;rintro e w6 ⟨rfl,rfl⟩;exact io
    have M6:=hid (fun W=>wi o.main 0 T true (inb d2.1 d2.2) W)
    have Lr:Hid (zqd o=true):=by show _=_;unfold zqd zbt;rw [decide_eq_true d1,decide_eq_true (p:=0<=o.main/\o.main<o.code.length) bR];rfl
    clear d1 d2;go_wp2_with fail;refine (KO.out _).mono ?_;rintro e w6 ⟨rfl,rfl⟩;go_wp2_with fail;refine (M6.out _).mono ?_;rintro e w6 ⟨rfl,rfl⟩;go_wp2_with fail;clear KO M6;have EG:=hid (HO.out.later At.out)
    go_loopw [6] (fun i wr=>∃ j:Nat,j<=o.code.length/\i=qi j/\(∀ k,k<j->z5g o k=true)/\wr=w6) (fun i _=>o.code.length - (intOf i).toNat)
    case atStart=>exact ⟨0,vaf _,rfl,fun k hk=>absurd hk (vbe k),rfl⟩
    case round =>
     obtain ⟨j,hj,rfl,A7,rfl⟩:=hrel;have HL:=hid A7;clear A7
     by_cases A0:j<o.code.length
     . obtain ⟨b3,off3,rfl,hbl3,c0,_,_,_,_,_⟩:=EG.out.code.gi j A0
       have HE:Hid (z5g o j=opB o.code[j]):=by show _=_;unfold z5g;rw [vad A0]
       have CF:=hid (fun (h:opB o.code[j]=false)=>Da.out (by rw [show zc6 o=false from by unfold zc6;rw [za5 A0 (HE.out.trans h)];rfl];rfl));have Hi:=hid (fun (h:opB o.code[j]=true)=>zbq HL.out (HE.out.trans h));generalize o.code[j]=p at *
       by_cases t:1<=p.op/\p.op<=22
       case neg=>
        have HR:=hid (CF.out (decide_eq_false t));have ID:=hid (fun W=>wi p.op 1 22 false (zxq t) W);clear t;go_wp2_with fail;refine (ID.out _).mono ?_;rintro e w7 ⟨rfl,rfl⟩;exact io
       have Fu:=hid (Hi.out (decide_eq_true t));have ID:=hid (fun W=>wi p.op 1 22 true (inb t.1 t.2) W);exact gM
     . obtain rfl : j = o.code.length:=by omega
       have Ht:Hid (zc6 o=zfv o.entries.length (zmm o)):=by show _=_;unfold zc6;rw [zan.2 HL.out,Lr.out];simp
       go_wp2_with fail
       go_loopw [7] (fun i Mw=>∃ j:Nat,j<=o.entries.length/\i=qi j/\(∀ k,k<j->zmm o k=true)/\Mw=wr) (fun i _=>o.entries.length - (intOf i).toNat)
       case atStart=>exact ⟨0,vaf _,rfl,fun k hk=>absurd hk (vbe k),rfl⟩
       case round =>
        obtain ⟨j,hj,rfl,A7,rfl⟩:=hrel;have HL:=hid A7;clear A7
        by_cases A0:j<o.entries.length
        . obtain ⟨UM,off5,rfl,hbl5,c0,_⟩:=EG.out.entries.num j A0
          have HE:Hid (zmm o j=zbt o o.entries[j]):=by show _=_;unfold zmm;rw [vad A0]
          have CF:=hid (fun (h:zbt o o.entries[j]=false)=>Da.out (by rw [Ht.out,za5 A0 (HE.out.trans h)];rfl));have Hi:=hid (fun (h:zbt o o.entries[j]=true)=>zbq HL.out (HE.out.trans h));generalize o.entries[j]=p at *
          by_cases t:0<=p/\p<=T
          case neg=>
           have HR:=hid (CF.out (decide_eq_false bR));have ID:=hid (fun W=>wi p 0 T false (zxq t) W);clear t;go_wp2_with fail;refine (ID.out _).mono ?_;rintro e w7 ⟨rfl,rfl⟩;exact io
          have Fu:=hid (Hi.out (decide_eq_true bR));have ID:=hid (fun W=>wi p 0 T true (inb t.1 t.2) W);exact gM
        . obtain rfl : j=o.entries.length:=by omega
          have Bl:Hid (zc6 o=true):=by show _=_;rw [Ht.out,zan.2 HL.out]
          have Bs:=hid (fun (h:zd9 o=false)=>Da.out (by rw [Bl.out,h];rfl));have SZ:=hid (fun (h:zd9 o=true)=>(by unfold oChk;rw [Mm.out,L2.out,Bl.out,h];rfl:oChk o=0));clear q0 q1 q2 q3 q4 q5 q6 qz;have M5:=hid (zbc HX.out At.out);have Ds:Hid (∀ n lo hi W,qc 63 #[qi n,qi lo,qi hi] W fun e w'=>e = .returned (.bool (inJ n lo hi))/\w'=W):=z7h;have qz:=lt_of_heap M5.out;obtain ⟨q0,q1,q2,q3,q4,q5,q6,_⟩:=zam M5.out;go_wp2_with fail;clear q0 q1 q2 q3 q4 q5 q6 qz;generalize hV:wr=V at *
          go_loopw [8] (fun i Mw=>∃ j:Nat,j<=o.fixes.length/\i=qi j/\(∀ k,k<j->zgz o k=true)/\qb V Mw) (fun i _=>o.fixes.length - (intOf i).toNat)
          case atStart=>exact ⟨0,vaf _,rfl,fun k hk=>absurd hk (vbe k),Below.refl _ _⟩
          case round =>
           obtain ⟨j,hj,rfl,A7,hb⟩:=hrel;have HL:=hid A7;have Cm:=hid hb;have Ep:=hid (thenB Bv.out hb);obtain ⟨q0,q1,q2,q3,q4,q5,q6,_⟩:=zam (zbc M5.out hb);have qz:=lt_of_heap (zbc M5.out hb);clear A7 hb
           by_cases A0:j<o.fixes.length
           . obtain ⟨UN,off4,rfl,hbl4,f0,f1,f2,_,_,_⟩:=(EG.out.later Cm.out).fixes.gf j A0
             have HE:Hid (zgz o j=(decide (lastAt o j<o.fixes[j].at_)&&(zbt o o.fixes[j].at_&&zx5 o o.fixes[j]))):=by show _=_;unfold zgz;rw [vad A0]
             have CF:=hid (fun (h:zgz o j=false)=>Bs.out (by unfold zd9;exact za5 A0 h));have Hi:=hid (fun (h:zgz o j=true)=>zbq HL.out h)
             cases j with
             | zero =>
               rw [show ((0:Nat):Int)=0 from rfl];generalize hf:o.fixes[0]=f at *;obtain ⟨fa,fk,fm⟩:=f;simp only [vbk,vbt] at f0 f1 f2 hbl4;simp only at HE;clear hf
               by_cases tA:0<=fa/\fa<=T
               case neg=>
                have HR:=hid (CF.out ce);have hA:inJ fa 0 T=false:=zxq tA;clear tA
                as_aux_lemma=>
                 exact fy
               have hA:inJ fa 0 T=true:=inb tA.1 tA.2
               obtain ⟨k,hk⟩:∃ k:Nat,fa=k:=⟨fa.toNat,ae⟩
               have ET:k<o.code.length:=bR
               have GE:Hid (zbt o fa=true):=decide_eq_true bR;clear tA;subst hk
               have BE:Hid (zgz o 0=zx5 o ⟨k,fk,fm⟩):=by show _=_;rw [HE.out,GE.out,decide_eq_true (p:=lastAt o 0<(k:Int)) (by show (-1:Int)<k;omega)];rfl
               obtain ⟨b3,off3,rfl,hbl3,_,a1,_,_,_,_⟩:=(EG.out.later Cm.out).code.gi k ET;have BU:=hid (zv6 (o:=o) (fk:=fk) (fm:=fm) ET ae);generalize o.code[k].a=ca at *
               by_cases tC:1<=fk/\fk<=3
               case neg=>
                have HR:=hid (CF.out (BE.out.trans (vbs.2 (fun h=>tC (BU.out.1 h).1))));have hC:inJ fk 1 3=false:=zxq tC;clear tC
                as_aux_lemma=>
                 exact fy
               have hC:inJ fk 1 3=true:=inb tC.1 tC.2
               by_cases tD:0<=fm/\fm<=o.uses.length
               case neg=>
                have HR:=hid (CF.out (BE.out.trans (vbs.2 (fun h=>tD (BU.out.1 h).2.1))));have hD:inJ fm 0 (o.uses.length:Int)=false:=zxq tD;clear tC tD
                as_aux_lemma=>
                 exact fy
               have hD:inJ fm 0 (o.uses.length:Int)=true:=inb tD.1 tD.2
               by_cases tE:0<=ca/\ca<=2048
               case neg=>
                have HR:=hid (CF.out (BE.out.trans (vbs.2 (fun h=>tE (BU.out.1 h).2.2.1))));have hE:inJ ca 0 2048=false:=zxq tE;clear tC tD tE
                as_aux_lemma=>
                 exact fy
               have hE:inJ ca 0 2048=true:=inb tE.1 tE.2
               by_cases tG:fk=1
               . by_cases tM:fm=0
                 . by_cases tL:ca<=o.code.length
                   . have Fu:=hid (Hi.out (BE.out.trans (BU.out.2 ⟨tC,tD,tE,fun _=>⟨tM,tL⟩⟩)))
                     have My:¬ (o.code.length:Int)<ca:=ae
                     subst tG;subst tM;clear tC tD tE tL
                     as_aux_lemma=>
                      exact f9
                   . have HR:=hid (CF.out (BE.out.trans (vbs.2 (fun h=>tL ((BU.out.1 h).2.2.2 tG).2))))
                     have My:(o.code.length:Int)<ca:=ae
                     subst tG;subst tM;clear tC tD tE tL
                     as_aux_lemma=>
                      exact fy
                 . have HR:=hid (CF.out (BE.out.trans (vbs.2 (fun h=>tM ((BU.out.1 h).2.2.2 tG).1))))
                   have Iv:(fm != 0)=true:=by simpa using tM
                   have Sc:(fm == 0)=false:=by simpa using tM
                   subst tG;clear tC tD tE
                   as_aux_lemma=>
                    exact fy
               . have Fu:=hid (Hi.out (BE.out.trans (BU.out.2 ⟨tC,tD,tE,fun e=>absurd e tG⟩)))
                 have dG:decide (fk=1)=false:=decide_eq_false tG
                 have Sz:(fk == 1)=false:=by simpa using tG
                 clear tC tD tE tG
                 as_aux_lemma=>
                  exact f9
             | succ j =>
               obtain ⟨_,_,he,_,g0,_,_,_,_,_⟩:=(EG.out.later Cm.out).fixes.gf j ae;cases he
               have IV:Hid (lastAt o (j+1)=o.fixes[j].at_):=by show (match o.fixes[j]? with | some f=>f.at_ | none=>-1)=_;rw [vad ae]
               generalize o.fixes[j+1]=f at *;generalize o.fixes[j]=g at *;obtain ⟨fa,fk,fm⟩:=f;simp only at f0 f1 f2 HE
               by_cases tA:0<=fa/\fa<=T
               case neg=>
                have HR:=hid (CF.out ce);have hA:inJ fa 0 T=false:=zxq tA;clear tA
                as_aux_lemma=>
                 exact fy
               have hA:inJ fa 0 T=true:=inb tA.1 tA.2
               obtain ⟨k,hk⟩:∃ k:Nat,fa=k:=⟨fa.toNat,ae⟩
               have ET:k<o.code.length:=bR
               have GE:Hid (zbt o fa=true):=decide_eq_true bR;clear tA;subst hk
               by_cases tB:g.at_<(k:Int)
               case neg=>
                have HR:=hid (CF.out (by rw [HE.out,IV.out,decide_eq_false tB];rfl))
                have TI:(k:Int)<=g.at_:=ae
                clear tB
                as_aux_lemma=>
                 exact fy
               have BE:Hid (zgz o (j+1)=zx5 o ⟨k,fk,fm⟩):=by show _=_;rw [HE.out,IV.out,GE.out,decide_eq_true tB];rfl
               have QT:¬ ((k:Int)<=g.at_):=ae
               have TH:decide ((k:Int)<=g.at_)=false:=decide_eq_false QT;obtain ⟨b3,off3,rfl,hbl3,_,a1,_,_,_,_⟩:=(EG.out.later Cm.out).code.gi k ET;have BU:=hid (zv6 (o:=o) (fk:=fk) (fm:=fm) ET ae);generalize o.code[k].a=ca at *
               by_cases tC:1<=fk/\fk<=3
               case neg=>
                have HR:=hid (CF.out (BE.out.trans (vbs.2 (fun h=>tC (BU.out.1 h).1))));have hC:inJ fk 1 3=false:=zxq tC;clear tC
                as_aux_lemma=>
                 exact fy
               have hC:inJ fk 1 3=true:=inb tC.1 tC.2
               by_cases tD:0<=fm/\fm<=o.uses.length
               case neg=>
                have HR:=hid (CF.out (BE.out.trans (vbs.2 (fun h=>tD (BU.out.1 h).2.1))));have hD:inJ fm 0 (o.uses.length:Int)=false:=zxq tD;clear tC tD
                as_aux_lemma=>
                 exact fy
               have hD:inJ fm 0 (o.uses.length:Int)=true:=inb tD.1 tD.2
               by_cases tE:0<=ca/\ca<=2048
               case neg=>
                have HR:=hid (CF.out (BE.out.trans (vbs.2 (fun h=>tE (BU.out.1 h).2.2.1))));have hE:inJ ca 0 2048=false:=zxq tE;clear tC tD tE
                as_aux_lemma=>
                 exact fy
               have hE:inJ ca 0 2048=true:=inb tE.1 tE.2
               by_cases tG:fk=1
               . by_cases tM:fm=0
                 . by_cases tL:ca<=o.code.length
                   . have Fu:=hid (Hi.out (BE.out.trans (BU.out.2 ⟨tC,tD,tE,fun _=>⟨tM,tL⟩⟩)))
                     have My:¬ (o.code.length:Int)<ca:=ae
                     subst tG;subst tM;clear tC tD tE tL
                     as_aux_lemma=>
                      exact f8
                   . have HR:=hid (CF.out (BE.out.trans (vbs.2 (fun h=>tL ((BU.out.1 h).2.2.2 tG).2))))
                     have My:(o.code.length:Int)<ca:=ae
                     subst tG;subst tM;clear tC tD tE tL
                     as_aux_lemma=>
                      exact fy
                 . have HR:=hid (CF.out (BE.out.trans (vbs.2 (fun h=>tM ((BU.out.1 h).2.2.2 tG).1))))
                   have Iv:(fm != 0)=true:=by simpa using tM
                   have Sc:(fm == 0)=false:=by simpa using tM
                   subst tG;clear tC tD tE
                   as_aux_lemma=>
                    exact fy
               . have Fu:=hid (Hi.out (BE.out.trans (BU.out.2 ⟨tC,tD,tE,fun e=>absurd e tG⟩)))
                 have dG:decide (fk=1)=false:=decide_eq_false tG
                 have Sz:(fk == 1)=false:=by simpa using tG
                 clear tC tD tE tG
                 as_aux_lemma=>
                  exact f8
           . obtain rfl:j=o.fixes.length:=by omega
             have HR:=hid (SZ.out (by unfold zd9;exact zan.2 HL.out));go_wp2_with fail;go_ret;exact ⟨aL,Ep.out⟩
end Go.Proofs.YtndkhgakfodldaaGreatDoor
