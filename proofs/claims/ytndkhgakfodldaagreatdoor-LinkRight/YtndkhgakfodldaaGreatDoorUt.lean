import Derived.Test.YtndkhgakfodldaaGreatDoorUr
import Derived.Test.YtndkhgakfodldaaGreatDoorPo
namespace Go.Proofs.YtndkhgakfodldaaGreatDoor
set_option maxRecDepth 100000
set_option maxHeartbeats 1600000
open Go.RowKit Go.Maps Go.WideMaps
set_option linter.unusedSimpArgs false
def zw0:Fc:=⟨⟨#[99,110,116]⟩,[⟨1,3,0,⟨#[107]⟩⟩,⟨2,0,0,⟨#[115,117,109]⟩⟩,⟨3,4,1,⟨#[116]⟩⟩,⟨4,1,0,⟨#[100,111,119,110]⟩⟩]⟩
def yaf (r:Except Int Un):Un:=match r with | .ok u=>u | .error _=>⟨⟨#[]⟩,[],0,[],[]⟩
def zth:Un:=yaf (zee zox [])
def zti:Un:=yaf (zee zmb [zw0])
theorem z59:zee zox [] = .ok zth:=by kernel_rfl
theorem z6a:zee zmb [zw0] = .ok zti:=by kernel_rfl
theorem EAt.num {w:World} {A:Nat->Prop} {a:OA} {n:Nat} {ds:List D} (h:EAt w A a n ds) (hn:n≠0):∃ b off,a=some ⟨b,off,none⟩/\b<w.heap.size/\A b/\∀ (j:Nat) (k:Int),ds[j]? = some (.int k)->w.cell? ⟨b,off+j,none⟩=some (.int .i64 k):=by
 rcases h with h | ⟨b,off,cs,ha,hA,hb,hc,hx⟩
 . exact absurd h hn
 . refine ⟨b,off,ha,hb,hA,fun j k hj=>?_⟩
   obtain ⟨v,hv,hd⟩:=hx.get j _ hj;rw [zo1 hd] at hv;exact hc j _ hv
theorem ztj (w:World) :
 Calls Tryz.prog 57 #[] w fun e w'=>∃ ad cap,e = .returned (.agg #[.string ⟨#[99,110,116]⟩,.slice ad 4 cap])/\DAt w' Tt ad 4 (zgm zw0.items)/\Below w.heap.size w w':=by
 go_enter Tryz.func57,Tryz.ntmps57;go_wp2_with fail
 obtain ⟨W,hW⟩:∃ W,W=allocsC w [(#[.string ⟨#[99,110,116]⟩,.slice (some ⟨w.heap.size+1,0,none⟩) 4 4],30),(#[.int .i64 1,.int .i64 3,.int .i64 0,.string ⟨#[107]⟩,.int .i64 2,.int .i64 0,.int .i64 0,.string ⟨#[115,117,109]⟩,.int .i64 3,.int .i64 4,.int .i64 1,.string ⟨#[116]⟩,.int .i64 4,.int .i64 1,.int .i64 0,.string ⟨#[100,111,119,110]⟩],98)]:=⟨_,rfl⟩
 have hB:Below w.heap.size w W:=by rw [hW];exact zed _ _
 have hD:DAt W Tt (some ⟨w.heap.size+1,0,none⟩) 4 (zgm zw0.items):=by
  rw [hW];refine zb6 (zaw w _ 1 _ _ rfl) ?_ (by decide) (by decide);exact .cons (zdl rfl) (.cons (zdl rfl) (.cons (zdl rfl) (.cons (zeu (by decide)) (.cons (zdl rfl) (.cons (zdl rfl) (.cons (zdl rfl) (.cons (zeu (by decide)) (.cons (zdl rfl) (.cons (zdl rfl) (.cons (zdl rfl) (.cons (zeu (by decide)) (.cons (zdl rfl) (.cons (zdl rfl) (.cons (zdl rfl) (.cons (zeu (by decide)) .nil)))))))))))))))
 refine bodyPost_ret (v:=.agg #[.string ⟨#[99,110,116]⟩,.slice (some ⟨w.heap.size+1,0,none⟩) 4 4]) (by simp [results,Tryz.results57,go_sem]) rfl ⟨some ⟨w.heap.size+1,0,none⟩,4,rfl,?_,?_⟩
 . rw [hW] at hD;exact hD
 . rw [hW] at hB;exact hB
theorem z0e (w:World):Calls Tryz.prog 55 #[.string z36] w fun e w'=>∃ v a1 c1 a2 c2 a3 c3 a4 c4,e = .returned (.tuple #[v,.int .i64 0])/\MoAt w' Tt zmb v a1 c1 a2 c2 a3 c3 a4 c4/\Below w.heap.size w w':=
 (zzk z36 w (by decide)).mono fun e w' ⟨h,hb⟩=>by
   rcases h with ⟨h,_⟩ | ⟨m,v,a1,c1,a2,c2,a3,c3,a4,c4,hp,_,he,hM⟩
   . rw [zux] at h;cases h
   . rw [zux] at hp
     obtain rfl:=vab hp;exact ⟨v,a1,c1,a2,c2,a3,c3,a4,c4,he,hM,hb⟩
set_option maxHeartbeats 12800000
structure Sg (w W:World) (b1 b3 b5:Nat) (a:OA) (cap:Nat) (s:ByteArray) (x1:OA) (n1 y1:Nat) (b2 o2 y2:Nat) (x3:OA) (n3 y3:Nat) (z1:OA) (d1:Nat) (z2:OA) (d2:Nat) (z3:OA) (d3:Nat) (z4:OA) (d4:Nat):Prop where
 below:Below w.heap.size w W
 h1:W.heap[b1]? = some (.cells #[.string ⟨#[99,110,116]⟩,.slice a 4 cap] 30 (0,0))
 its:Fx.zcr W a zw0.items
 fit:Fx.AllFit zw0.items
 h3:W.heap[b3]? = some (.cells #[.string s,.slice x1 n1 y1,.int .i64 5,.slice (some ⟨b2,o2,none⟩) 1 y2,.slice x3 n3 y3] 42 (0,0))
 l3:b2<W.heap.size
 c3:W.cell? ⟨b2,o2+1,none⟩=some (.int .i64 1)
 h5:W.heap[b5]? = some (.cells #[.string ⟨#[116,111,112]⟩,.slice z1 1 d1,.slice z2 0 d2,.slice z3 0 d3,.slice z4 3 d4] 27 (0,0))
 mo:MoAt W Tt zmb (.agg #[.string ⟨#[116,111,112]⟩,.slice z1 1 d1,.slice z2 0 d2,.slice z3 0 d3,.slice z4 3 d4]) z1 d1 z2 d2 z3 d3 z4 d4
theorem Sg.later {w W W':World} {b1 b3 b5:Nat} {a:OA} {cap:Nat} {s:ByteArray} {x1:OA} {n1 y1 b2 o2 y2:Nat} {x3:OA} {n3 y3:Nat} {z1 z2 z3 z4:OA} {d1 d2 d3 d4:Nat} (h:Sg w W b1 b3 b5 a cap s x1 n1 y1 b2 o2 y2 x3 n3 y3 z1 d1 z2 d2 z3 d3 z4 d4) (hb:Below W.heap.size W W'):Sg w W' b1 b3 b5 a cap s x1 n1 y1 b2 o2 y2 x3 n3 y3 z1 d1 z2 d2 z3 d3 z4 d4:=
 ⟨h.below.trans (hb.mono h.below.size),(hb.block _ (lt_of_heap h.h1)).trans h.h1,h.its.later hb,h.fit,(hb.block _ (lt_of_heap h.h3)).trans h.h3,vah h.l3 hb.size,(hb.cell (p:=⟨b2,o2+1,none⟩) h.l3).trans h.c3,(hb.block _ (lt_of_heap h.h5)).trans h.h5,h.mo.later hb⟩
structure Tg (W:World) (b7:Nat) (s:ByteArray) (x1:OA) (n1 y1:Nat) (d:Int) (x2:OA) (n2 y2 b3 o3 y3:Nat):Prop where
 h7:W.heap[b7]? = some (.cells #[.string s,.slice x1 n1 y1,.int .i64 d,.slice x2 n2 y2,.slice (some ⟨b3,o3,none⟩) 3 y3] 42 (0,0))
 l7:b3<W.heap.size
 n:W.cell? ⟨b3,o3+1,none⟩=some (.int .i64 4)
 m:W.cell? ⟨b3,o3+2,none⟩=some (.int .i64 1)
 at':W.cell? ⟨b3,o3+3,none⟩=some (.int .i64 1)
theorem Tg.later {W W':World} {b7:Nat} {s:ByteArray} {x1:OA} {n1 y1:Nat} {d:Int} {x2:OA} {n2 y2 b3 o3 y3:Nat} (h:Tg W b7 s x1 n1 y1 d x2 n2 y2 b3 o3 y3) (hb:Below W.heap.size W W'):Tg W' b7 s x1 n1 y1 d x2 n2 y2 b3 o3 y3:=
 ⟨(hb.block _ (lt_of_heap h.h7)).trans h.h7,vah h.l7 hb.size,(hb.cell (p:=⟨b3,o3+1,none⟩) h.l7).trans h.n,(hb.cell (p:=⟨b3,o3+2,none⟩) h.l7).trans h.m,(hb.cell (p:=⟨b3,o3+3,none⟩) h.l7).trans h.at'⟩
theorem zpk {w:World} {ad:OA} {cp:Nat} (hD:DAt w Tt ad 4 (zgm zw0.items)) (t:TypeId):DAt (w.alloc (.cells #[.string ⟨#[99,110,116]⟩,.slice ad 4 cp] t)) Tt (some ⟨w.heap.size,0,none⟩) 1 (z52 [zw0]):=by
 refine zb6 (zaw w [(#[.string ⟨#[99,110,116]⟩,.slice ad 4 cp],t)] 0 _ _ rfl) ?_ (by decide) (by decide);exact .cons (zeu (by decide)) (.cons (hD.moves ⟨by simp,fun b hb _=>⟨trivial,(al1 _ _).block b hb⟩⟩).val .nil)
theorem z0f {w:World} {ad:OA} {cp:Nat} (hD:DAt w Tt ad 4 (zgm zw0.items)) (o:Obj) (t:TypeId):DAt ((w.alloc o).alloc (.cells #[.string ⟨#[99,110,116]⟩,.slice ad 4 cp] t)) Tt (some ⟨w.heap.size+1,0,none⟩) 1 (z52 [zw0]):=by
 have:=zpk (cp:=cp) (hD.moves (w':=w.alloc o) ⟨by simp,fun b hb _=>⟨trivial,(al1 _ _).block b hb⟩⟩) t;simpa using this
theorem z9j {W:World} {b:Nat} {v0 v1 v2 v3 v4:Value} {t:TypeId} (h:W.heap[b]? = some (.cells #[v0,v1,v2,v3,v4] t (0,0))):W.cell? ⟨b,0,none⟩=some v0/\W.cell? ⟨b,1,none⟩=some v1/\W.cell? ⟨b,2,none⟩=some v2/\W.cell? ⟨b,3,none⟩=some v3/\W.cell? ⟨b,4,none⟩=some v4:=
 have h3:=zaa h
 ⟨h3.1,h3.2.1,h3.2.2.1,h3.2.2.2.1,h3.2.2.2.2.1⟩
theorem zbn {w w':World} {b:Nat} {x:Obj} (h:w.heap[b]? = some x) (hb:Below w.heap.size w w'):w'.heap[b]? = some x:=(hb.block _ (lt_of_heap h)).trans h
theorem z9k (w:World) (o:Obj):(w.alloc o).drew.heap[w.heap.size]? = some o:=heap_newP w o
theorem z74 (w:World) (o p:Obj):((w.alloc o).alloc p).heap[w.heap.size+1]? = some p:=by simpa using heap_newP (w.alloc o) p
set_option maxHeartbeats 6400000
set_option linter.unusedVariables false
mutual
def D.fineB:D->Bool
 | .int n=>(Lit.int .i64 n).wf
 | .str _=>true
 | .bool _=>true
 | .list n ds=>decide (n<=ds.length)&&(decide (ds.length<=17592186044416)&&zvk ds)
def zvk:List D->Bool
 | []=>true
 | d :: ds=>d.fineB&&zvk ds
end
mutual
theorem z6b:∀ d:D,d.fineB=true->d.fine
 | .int _,h=>by unfold D.fineB at h;unfold D.fine;exact h
 | .str _,_=>by unfold D.fine;trivial
 | .bool _,_=>by unfold D.fine;trivial
 | .list n ds,h=>by
   unfold D.fineB at h;unfold D.fine;simp only [vac,decide_eq_true_eq] at h;exact ⟨h.1,h.2.1,zj5 ds h.2.2⟩
theorem zj5:∀ l:List D,zvk l=true->D.fines l
 | [],_=>by unfold D.fines;trivial
 | d :: ds,h=>by
   unfold zvk at h;unfold D.fines;rw [vac] at h;exact ⟨z6b d h.1,zj5 ds h.2⟩
end
def Uls (w:World) (A:Nat->Prop) (u:Un) (x1 x2 x3:OA):Prop:=DAt w A x1 u.uses.length (zaj u.uses)/\DAt w A x2 u.parts.length (zk7 u.parts)/\DAt w A x3 u.main.length (zdm u.main)
theorem Uls.moves {w w':World} {A A':Nat->Prop} {u:Un} {x1 x2 x3:OA} (h:Uls w A u x1 x2 x3) (m:zad w A w' A'):Uls w' A' u x1 x2 x3:=⟨h.1.moves m,h.2.1.moves m,h.2.2.moves m⟩
theorem z75 {w:World} {A:Nat->Prop} {u:Un} {x1 x2 x3:OA} (hf:D.fines u.ds) (h1:EAt w A x1 u.uses.length (zaj u.uses)) (h2:EAt w A x2 u.parts.length (zk7 u.parts)) (h3:EAt w A x3 u.main.length (zdm u.main)):Uls w A u x1 x2 x3:=by
 simp only [Un.ds,D.fines,D.fine] at hf;obtain ⟨_,⟨a1,a2,a3⟩,_,⟨b1,b2,b3⟩,⟨c1,c2,c3⟩,_⟩:=hf;exact ⟨h1.toD a1 a2 a3,h2.toD b1 b2 b3,h3.toD c1 c2 c3⟩
structure UnIn (w:World) (b:Nat) (u:Un) (x1:OA) (xc1:Nat) (x2:OA) (xc2:Nat) (x3:OA) (xc3:Nat):Prop where
 blk:w.heap[b]? = some (.cells #[.string u.name,.slice x1 u.uses.length xc1,.int .i64 u.data,.slice x2 u.parts.length xc2,.slice x3 u.main.length xc3] 42 (0,0))
 ls:Uls w Tt u x1 x2 x3
theorem UnIn.later {w w':World} {b:Nat} {u:Un} {x1 x2 x3:OA} {xc1 xc2 xc3:Nat} (h:UnIn w b u x1 xc1 x2 xc2 x3 xc3) (hb:Below w.heap.size w w'):UnIn w' b u x1 xc1 x2 xc2 x3 xc3:=
 ⟨zbn h.blk hb,h.ls.moves (zad.of_below hb _)⟩
def z4d (u:Un) (w:World) (e:Ending) (w':World):Prop:=∃ x1 xc1 x2 xc2 x3 xc3,e = .returned (.tuple #[.agg #[.string u.name,.slice x1 u.uses.length xc1,.int .i64 u.data,.slice x2 u.parts.length xc2,.slice x3 u.main.length xc3],.int .i64 0])/\Uls w' (w.heap.size<=·) u x1 x2 x3/\Below w.heap.size w w'
theorem z4e {m:Mo} {l:List Fc} {u:Un} (hr:zee m l = .ok u) (hf:D.fines u.ds) {w:World} {v:Value} {a1 a2 a3 a4:OA} {c1 c2 c3 c4:Nat} (hM:MoAt w Tt m v a1 c1 a2 c2 a3 c3 a4 c4) {al:OA} (cl:Nat) (hF:DAt w Tt al l.length (z52 l)) :
 Calls Tryz.prog 21 #[v,.slice al l.length cl] w fun e w'=>z4d u w e w':=
 (ztg m v a1 c1 a2 c2 a3 c3 a4 c4 l al cl w hM hF).mono fun e w' ⟨h,hb⟩=>by
   rw [hr] at h;obtain ⟨x1,y1,x2,y2,x3,y3,he,h1,h2,h3⟩:=h;exact ⟨x1,y1,x2,y2,x3,y3,he,z75 hf h1 h2 h3,hb⟩
theorem Uls.new {w:World} {A:Nat->Prop} {u:Un} {x1 x2 x3:OA} (xc1 xc2 xc3:Nat) (h:Uls w A u x1 x2 x3) (t:TypeId) (ht:t=42):UnIn (w.alloc (.cells #[.string u.name,.slice x1 u.uses.length xc1,.int .i64 u.data,.slice x2 u.parts.length xc2,.slice x3 u.main.length xc3] t)) w.heap.size u x1 xc1 x2 xc2 x3 xc3:=by
 subst ht;exact ⟨heap_newP _ _,h.moves ⟨by simp,fun b hb _=>⟨trivial,(al1 _ _).block b hb⟩⟩⟩
theorem Uls.set {w:World} {lo b:Nat} {u:Un} {x1 x2 x3:OA} (xc1 xc2 xc3:Nat) {v0 v1 v2 v3 v4:Value} (h:Uls w (lo<=·) u x1 x2 x3) (hz:w.heap[b]? = some (.cells #[v0,v1,v2,v3,v4] 42)) (hb:b<lo):UnIn (set5 w b (.string u.name) (.slice x1 u.uses.length xc1) (.int .i64 u.data) (.slice x2 u.parts.length xc2) (.slice x3 u.main.length xc3)) b u x1 xc1 x2 xc2 x3 xc3:=by
 refine ⟨heap_set (heap_set (heap_set (heap_set (heap_set hz _) _) _) _) _,h.moves ⟨by simp [set5],fun k hk hl=>⟨trivial,?_⟩⟩⟩
 have hn:k≠b:=by omega
 exact (heap_set_ne hn _).trans ((heap_set_ne hn _).trans ((heap_set_ne hn _).trans ((heap_set_ne hn _).trans (heap_set_ne hn _))))
theorem z76 {w:World} {u:Un} {x1 x2 x3:OA} (xc1 xc2 xc3:Nat) (hf:D.fines u.ds) (hn:u.name.size<=maxLen) (h:Uls w Tt u x1 x2 x3):zap w Tt u.ds [.string u.name,.slice x1 u.uses.length xc1,.int .i64 u.data,.slice x2 u.parts.length xc2,.slice x3 u.main.length xc3]:=by
 simp only [Un.ds,D.fines,D.fine] at hf;unfold Un.ds;exact .cons (zeu hn) (.cons h.1.val (.cons (zdl hf.2.2.1) (.cons h.2.1.val (.cons h.2.2.val .nil))))
theorem ztk (u t:Un) (hu:zee zox [] = .ok u) (ht:zee zmb [zw0] = .ok t) (hfu:D.fines u.ds) (hft:D.fines t.ds) (hnu:u.name.size<=maxLen) (hnt:t.name.size<=maxLen) (w:World) :
 Calls Tryz.prog 75 #[] w fun e w'=>∃ a,e = .returned (.slice (some a) 2 2)/\DAt w' Tt (some a) 2 (z20 [u,t])/\Below w.heap.size w w':=by
 have HU:=hid (fun (W:World) (v:Value) (a1:OA) (c1:Nat) (a2:OA) (c2:Nat) (a3:OA) (c3:Nat) (a4:OA) (c4:Nat) (hM:MoAt W Tt zox v a1 c1 a2 c2 a3 c3 a4 c4)=>z4e hu hfu hM (al:=none) 0 ⟨vaa _,vag _,Or.inl rfl⟩)
 have HT:Hid (∀ (W:World) (v:Value) (a1:OA) (c1:Nat) (a2:OA) (c2:Nat) (a3:OA) (c3:Nat) (a4:OA) (c4:Nat),MoAt W Tt zmb v a1 c1 a2 c2 a3 c3 a4 c4->∀ (al:OA) (cl:Nat),DAt W Tt al 1 (z52 [zw0])->Calls Tryz.prog 21 #[v,.slice al 1 cl] W fun e w'=>z4d t W e w'):=fun W v a1 c1 a2 c2 a3 c3 a4 c4 hM al cl hF=>z4e ht hft hM (l:=[zw0]) cl hF
 have HFu:=hid (And.intro hfu hnu);have HFt:=hid (And.intro hft hnt);clear hu ht hfu hft hnu hnt;go_enter Tryz.func75,Tryz.ntmps75;go_wp2_with fail;refine (zsz _).mono ?_;rintro e w1 ⟨v,a1,c1,a2,c2,a3,c3,a4,c4,rfl,hM,hb1⟩;have HM:=hid hM;have HB1:=hid hb1;clear hM hb1;go_wp2_with fail;refine (HU.out _ _ _ _ _ _ _ _ _ _ HM.out).mono ?_;rintro e w2 ⟨x1,xc1,x2,xc2,x3,xc3,rfl,hC,hb2⟩;have HN:=hid (hC.new xc1 xc2 xc3 42 rfl);have HB2:=hid (thenB HB1.out (thenB hb2 (al1 w2 (.cells #[.string u.name,.slice x1 u.uses.length xc1,.int .i64 u.data,.slice x2 u.parts.length xc2,.slice x3 u.main.length xc3] 42))));clear hC hb2 HM HB1;go_wp2_with fail
 obtain ⟨W2,hW2⟩:∃ W2,W2=w2.alloc (.cells #[.string u.name,.slice x1 u.uses.length xc1,.int .i64 u.data,.slice x2 u.parts.length xc2,.slice x3 u.main.length xc3] 42):=⟨_,rfl⟩
 rw [← hW2] at HN HB2 ⊢;clear hW2;refine (zs0 _).mono ?_;rintro e w5 ⟨rfl,h5⟩
 have hB5:Below W2.heap.size W2 w5:=by rw [h5];exact Below.refl _ _
 clear h5;go_wp2_with fail;refine (z0e w5).mono ?_;rintro e w6 ⟨u',z1,d1,z2,d2,z3,d3,z4,d4,rfl,hM,hb6⟩;have hB6:=thenB hB5 hb6;obtain rfl:u' = .agg #[.string ⟨#[116,111,112]⟩,.slice z1 1 d1,.slice z2 0 d2,.slice z3 0 d3,.slice z4 3 d4]:=hM.val;have HM:=hid hM;have HB6:=hid hB6;clear hM hB6 hb6 hB5;go_wp2_with fail
 obtain ⟨W6,hW6⟩:∃ W6,W6=w6.alloc (.cells #[.string ⟨#[116,111,112]⟩,.slice z1 1 d1,.slice z2 0 d2,.slice z3 0 d3,.slice z4 3 d4] 27):=⟨_,rfl⟩
 have hB7:Below w6.heap.size w6 W6:=by rw [hW6];exact al1 _ _
 have hB:=thenB HB6.out hB7;have HSB:=hid (thenB HB2.out hB);have HSU:=hid (HN.out.later hB)
 have HSM:Hid (W6.heap[w6.heap.size]? = some (.cells #[.string ⟨#[116,111,112]⟩,.slice z1 1 d1,.slice z2 0 d2,.slice z3 0 d3,.slice z4 3 d4] 27 (0,0))/\MoAt W6 Tt zmb (.agg #[.string ⟨#[116,111,112]⟩,.slice z1 1 d1,.slice z2 0 d2,.slice z3 0 d3,.slice z4 3 d4]) z1 d1 z2 d2 z3 d3 z4 d4):=⟨by rw [hW6];exact heap_newP _ _,HM.out.later hB7⟩
 rw [← hW6];clear hW6 hB7 hB HB6 HB2 HM HN
 rename_i K hK
 have TAIL:∀ {W9:World} {b7:Nat} {y1 y2 y3:OA} {yc1 yc2 yc3:Nat} {t7 t8 t9 t10 t11 t12 t13 t14 t15 t16 t17 t18 t19 t20 t21 t22 t23 t24 t25 t26:Value},Below w.heap.size w W9->UnIn W9 w2.heap.size u x1 xc1 x2 xc2 x3 xc3->UnIn W9 b7 t y1 yc1 y2 yc2 y3 yc3->K { tmps:=#[.slice none 0 0,.pointer (some ⟨w2.heap.size,0,none⟩),.int .i64 0,.pointer (some ⟨w6.heap.size,0,none⟩),.int .i64 0,.pointer (some ⟨b7,0,none⟩),.int .i64 0,t7,t8,t9,t10,t11,t12,t13,t14,t15,t16,t17,t18,t19,t20,t21,t22,t23,t24,t25,t26],defers:=[] } W9:=by
  intro W9 b7 y1 y2 y3 yc1 yc2 yc3 t7 t8 t9 t10 t11 t12 t13 t14 t15 t16 t17 t18 t19 t20 t21 t22 t23 t24 t25 t26 hb9 h1 h2;have HB9:=hid hb9;have H1:=hid h1;have H2:=hid h2;obtain ⟨q0,q1,q2,q3,q4⟩:=z9j h1.blk;obtain ⟨r0,r1,r2,r3,r4⟩:=z9j h2.blk;have qz:=lt_of_heap h1.blk;have rz:=lt_of_heap h2.blk;clear hb9 h1 h2 HSB HSU HSM;refine hK _ _ ?_;clear hK;go_wp2_with fail;have hB9:=al1 W9 (.cells #[.string u.name,.slice x1 u.uses.length xc1,.int .i64 u.data,.slice x2 u.parts.length xc2,.slice x3 u.main.length xc3,.string t.name,.slice y1 t.uses.length yc1,.int .i64 t.data,.slice y2 t.parts.length yc2,.slice y3 t.main.length yc3] 42);go_ret;refine ⟨⟨W9.heap.size,0,none⟩,rfl,?_,thenB HB9.out hB9⟩;refine zb6 (Blk.new W9 _ _) ?_ (by simp [z20,Un.ds]) (by simp [z20,Un.ds])
  have e:z20 [u,t]=u.ds++t.ds:=by simp [z20]
  rw [e];have k1:=z76 xc1 xc2 xc3 HFu.out.1 HFu.out.2 (H1.out.ls.moves (zad.of_below hB9 _));have k2:=z76 yc1 yc2 yc3 HFt.out.1 HFt.out.2 (H2.out.ls.moves (zad.of_below hB9 _));exact k1.append k2
 clear hK;have HMd:=hid (zbn HSM.out.1 (bdrew W6));have hb5:=lt_of_heap HSM.out.1;have HX5:=hid (fun (W:World) (hW:Below W6.heap.size W6 W)=>z9j (zbn HSM.out.1 hW))
 go_region_held (fun W=>W.cell? ⟨w6.heap.size,0,none⟩=some (.string ⟨#[116,111,112]⟩)/\W.cell? ⟨w6.heap.size,1,none⟩=some (.slice z1 1 d1)/\W.cell? ⟨w6.heap.size,2,none⟩=some (.slice z2 0 d2)/\W.cell? ⟨w6.heap.size,3,none⟩=some (.slice z3 0 d3)/\W.cell? ⟨w6.heap.size,4,none⟩=some (.slice z4 3 d4))
  (first | with_reducible exact HX5.out _ HB8.out | with_reducible exact HX5.out _ (thenB HB8.out (al1 _ _)) | with_reducible exact HX5.out _ (zdx HB8.out (by omega) _ _ _ _ _) | with_reducible exact HX5.out _ HB7.out | with_reducible exact HX5.out _ (thenB HB7.out (al1 _ _)) | with_reducible exact HX5.out _ (thenB HB7.out (bl2 _ _ _)) | with_reducible exact HX5.out _ (bdrew _) | with_reducible exact HX5.out _ (zbe _ _) | with_reducible exact HX5.out _ (thenB (bdrew _) (al1 _ _)))
  (first
  | (go_at_call 57;refine (ztj _).mono ?_;rintro e w7 ⟨ad,cp,rfl,hD,hb7⟩;have HD7:=hid hD;(first | (with_reducible have HB7:=hid (thenB (bdrew W6) hb7)) | (have HZ7:=hid (zbn (z9k W6 _) hb7);have HB7:=hid (thenB (zbe W6 _) hb7)));have hz7:=HB7.out.size;clear hD hb7)
  | (go_at_call 21;(with_reducible refine (HT.out _ _ _ _ _ _ _ _ _ _ (HSM.out.2.later (thenB HB7.out (al1 _ _))) _ _ (zpk HD7.out _)).mono ?_);rintro e w8 ⟨y1,yc1,y2,yc2,y3,yc3,rfl,hC,hb8⟩;have HC8:=hid hC;have HB8:=hid (thenB HB7.out (thenB (al1 _ _) hb8));(first | (with_reducible refine And.elim ?_ (zvf (zbn (zbn HZ7.out (al1 _ _)) hb8));intro e0 hcs;have HZ8:=hid (zbn (zbn HZ7.out (al1 _ _)) hb8);obtain ⟨e1,e2,e3,e4,ef,hel⟩:=hcs) | skip);clear hC hb8)
  | (go_at_call 21;(with_reducible refine (HT.out _ _ _ _ _ _ _ _ _ _ (HSM.out.2.later (thenB HB7.out (bl2 _ _ _))) _ _ ((zpk HD7.out _).later (al1 _ _))).mono ?_);rintro e w8 ⟨y1,yc1,y2,yc2,y3,yc3,rfl,hC,hb8⟩;have HC8:=hid hC;have HB8:=hid (thenB HB7.out (thenB (bl2 _ _ _) hb8));(refine And.elim ?_ (zvf (zbn (z74 w7 _ _) hb8));intro e0 hcs;have HZ8:=hid (zbn (z74 w7 _ _) hb8);obtain ⟨e1,e2,e3,e4,ef,hel⟩:=hcs);clear hC hb8)
  | (go_at_call 21;(with_reducible refine (HT.out _ _ _ _ _ _ _ _ _ _ (HSM.out.2.later (thenB HB7.out (bl2 _ _ _))) _ _ (z0f HD7.out _ _)).mono ?_);rintro e w8 ⟨y1,yc1,y2,yc2,y3,yc3,rfl,hC,hb8⟩;have HC8:=hid hC;have HB8:=hid (thenB HB7.out (thenB (bl2 _ _ _) hb8));(refine And.elim ?_ (zvf (zbn (zab (heap_newP w7 _)) hb8));intro e0 hcs;have HZ8:=hid (zbn (zab (heap_newP w7 _)) hb8);obtain ⟨e1,e2,e3,e4,ef,hel⟩:=hcs);clear hC hb8))
 . show K _ _
   exact TAIL (thenB HSB.out (thenB HB8.out (al1 w8 _))) (HSU.out.later (thenB HB8.out (al1 w8 _))) (HC8.out.new yc1 yc2 yc3 42 rfl)
 . show K _ _
   exact TAIL (thenB HSB.out (zdx HB8.out (b:=w7.heap.size+1) (by omega) _ _ _ _ _)) (HSU.out.later (zdx HB8.out (b:=w7.heap.size+1) (by omega) _ _ _ _ _)) (HC8.out.set yc1 yc2 yc3 HZ8.out (by simp<;>omega))
 . show K _ _
   exact TAIL (thenB HSB.out (zdx HB8.out (b:=w7.heap.size) (by omega) _ _ _ _ _)) (HSU.out.later (zdx HB8.out (b:=w7.heap.size) (by omega) _ _ _ _ _)) (HC8.out.set yc1 yc2 yc3 HZ8.out (by simp<;>omega))
 . show K _ _
   exact TAIL (thenB HSB.out (zdx HB8.out (b:=W6.heap.size) (by omega) _ _ _ _ _)) (HSU.out.later (zdx HB8.out (b:=W6.heap.size) (by omega) _ _ _ _ _)) (HC8.out.set yc1 yc2 yc3 HZ8.out (by simp<;>omega))
theorem z3e:D.fines zth.ds:=zj5 _ (by kernel_rfl)
theorem z3f:D.fines zti.ds:=zj5 _ (by kernel_rfl)
theorem z0g {n k:Nat} (h:n=k) (hk:k<=maxLen):n<=maxLen:=h ▸ hk
theorem ztl (w:World) :
 Calls Tryz.prog 75 #[] w fun e w'=>∃ a,e = .returned (.slice (some a) 2 2)/\DAt w' Tt (some a) 2 (z20 [zth,zti])/\Below w.heap.size w w':=
 ztk zth zti z59 z6a z3e z3f (z0g (k:=3) (by kernel_rfl) (by decide)) (z0g (k:=3) (by kernel_rfl) (by decide)) w
def zri:Ob:=zpt zth
theorem z6c:zw5 zth = .ok zri:=by kernel_rfl
theorem DAt.ints {w:World} {A:Nat->Prop} {a:OA} {n:Nat} {ds:List D} (h:DAt w A a n ds) (hn:0<n):∃ b off,a=some ⟨b,off,none⟩/\b<w.heap.size/\∀ (j:Nat) (k:Int),ds[j]? = some (.int k)->w.cell? ⟨b,off+j,none⟩=some (.int .i64 k):=by
 obtain ⟨b,off,ha,hb,hc⟩:=h.cell hn;refine ⟨b,off,ha,hb,fun j k hj=>?_⟩;obtain ⟨v,hv,hd⟩:=hc j _ hj;rw [(za3 hd).1] at hv;exact hv
structure Cob (w:World) (b3 o3 b4 o4 b5 o5:Nat):Prop where
 l3:b3<w.heap.size
 c0:w.cell? ⟨b3,o3+12,none⟩=some (.int .i64 12)
 c1:w.cell? ⟨b3,o3+13,none⟩=some (.int .i64 15)
 c2:w.cell? ⟨b3,o3+14,none⟩=some (.int .i64 0)
 c3:w.cell? ⟨b3,o3+15,none⟩=some (.int .i64 16)
 l4:b4<w.heap.size
 f0:w.cell? ⟨b4,o4,none⟩=some (.int .i64 4)
 f1:w.cell? ⟨b4,o4+1,none⟩=some (.int .i64 1)
 f2:w.cell? ⟨b4,o4+2,none⟩=some (.int .i64 0)
 f3:w.cell? ⟨b4,o4+3,none⟩=some (.int .i64 6)
 f4:w.cell? ⟨b4,o4+4,none⟩=some (.int .i64 3)
 f5:w.cell? ⟨b4,o4+5,none⟩=some (.int .i64 0)
 en:DAt w Tt (some ⟨b5,o5,none⟩) 1 (zfy [0])
theorem Cob.later {w w':World} {b3 o3 b4 o4 b5 o5:Nat} (h:Cob w b3 o3 b4 o4 b5 o5) (hb:Below w.heap.size w w'):Cob w' b3 o3 b4 o4 b5 o5:=
 have k3:∀ j,w'.cell? ⟨b3,j,none⟩=w.cell? ⟨b3,j,none⟩:=fun j=>hb.cell (p:=⟨b3,j,none⟩) h.l3
 have k4:∀ j,w'.cell? ⟨b4,j,none⟩=w.cell? ⟨b4,j,none⟩:=fun j=>hb.cell (p:=⟨b4,j,none⟩) h.l4
 ⟨vah h.l3 hb.size,(k3 _).trans h.c0,(k3 _).trans h.c1,(k3 _).trans h.c2,(k3 _).trans h.c3,vah h.l4 hb.size,(k4 _).trans h.f0,(k4 _).trans h.f1,(k4 _).trans h.f2,(k4 _).trans h.f3,(k4 _).trans h.f4,(k4 _).trans h.f5,h.en.later hb⟩
def z77 (l:List Ob):List D:=l.flatMap Ob.ds
structure ObAt (w:World) (b off:Nat) (o:Ob) (x1:OA) (y1:Nat) (x3:OA) (y3:Nat) (x4:OA) (y4:Nat) (x5:OA) (y5:Nat):Prop where
 lt:b<w.heap.size
 c0:w.cell? ⟨b,off,none⟩=some (.string o.name)
 c1:w.cell? ⟨b,off+1,none⟩=some (.slice x1 o.uses.length y1)
 c2:w.cell? ⟨b,off+2,none⟩=some (.int .i64 o.data)
 c3:w.cell? ⟨b,off+3,none⟩=some (.slice x3 o.code.length y3)
 c4:w.cell? ⟨b,off+4,none⟩=some (.slice x4 o.fixes.length y4)
 c5:w.cell? ⟨b,off+5,none⟩=some (.slice x5 o.entries.length y5)
 c6:w.cell? ⟨b,off+6,none⟩=some (.int .i64 o.main)
 ov:OvAt w o x1 x3 x4 x5
theorem DAt.ob {w:World} {a:OA} {l:List Ob} (h:DAt w Tt a l.length (z77 l)) (i:Nat) (hi:i<l.length):∃ b off x1 y1 x3 y3 x4 y4 x5 y5,a=some ⟨b,off,none⟩/\ObAt w b (off+i*7) l[i] x1 y1 x3 y3 x4 y4 x5 y5:=by
 obtain ⟨b,off,ha,hb,hc⟩:=h.cell (by omega);generalize hx:l[i]=x;obtain ⟨name,uses,data,code,fixes,entries,main⟩:=x
 have g:∀ j d,j<7->(Ob.mk name uses data code fixes entries main).ds[j]? = some d->∃ v,w.cell? ⟨b,off+i*7+j,none⟩=some v/\zc7 w Tt d v:=fun j d hj hd=>by
  rw [vbj];exact hc (i*7+j) d ((zck Ob.ds 7 (fun _=>rfl) l i hi j hj).trans (by rw [hx];exact hd))
 obtain ⟨v0,q0,d0⟩:=g 0 (.str name) (by omega) rfl;obtain ⟨v1,q1,d1⟩:=g 1 (.list uses.length (zaj uses)) (by omega) rfl;obtain ⟨v2,q2,d2⟩:=g 2 (.int data) (by omega) rfl;obtain ⟨v3,q3,d3⟩:=g 3 (.list code.length (zv5 code)) (by omega) rfl;obtain ⟨v4,q4,d4⟩:=g 4 (.list fixes.length (z1u fixes)) (by omega) rfl;obtain ⟨v5,q5,d5⟩:=g 5 (.list entries.length (zfy entries)) (by omega) rfl;obtain ⟨v6,q6,d6⟩:=g 6 (.int main) (by omega) rfl;obtain ⟨rfl,w0⟩:=zc8 d0;obtain ⟨x1,y1,rfl,h1⟩:=za0 d1;obtain ⟨rfl,w2⟩:=za3 d2;obtain ⟨x3,y3,rfl,h3⟩:=za0 d3;obtain ⟨x4,y4,rfl,h4⟩:=za0 d4;obtain ⟨x5,y5,rfl,h5⟩:=za0 d5;obtain ⟨rfl,w6⟩:=za3 d6;exact ⟨b,off,x1,y1,x3,y3,x4,y4,x5,y5,ha,hb,q0,q1,q2,q3,q4,q5,q6,w0,h1,w2,h3,h4,h5,w6⟩
def z9l (w:World) (a:OA) (n:Nat):Prop:=∀ b off,a=some ⟨b,off,none⟩->∀ i,i<n->∃ x k y,w.cell? ⟨b,off+i*7+1,none⟩=some (.slice x k y)/\k<=y
def zlp (w:World) (a:OA) (l:List Ob):Prop:=DAt w Tt a l.length (z77 l)/\z9l w a l.length
theorem zlp.later {w w':World} {a:OA} {l:List Ob} (h:zlp w a l) (hb:Below w.heap.size w w'):zlp w' a l:=by
 refine ⟨h.1.later hb,fun b off ha i hi=>?_⟩;obtain ⟨x,k,y,hc,hk⟩:=h.2 b off ha i hi;obtain ⟨b',off',_,_,_,_,_,_,_,_,ha',hO⟩:=DAt.ob (l:=l) h.1 i hi;rw [ha] at ha'
 cases ha'
 exact ⟨x,k,y,(hb.cell (p:=⟨b,off+i*7+1,none⟩) hO.lt).trans hc,hk⟩
theorem zlp.ob {w:World} {a:OA} {l:List Ob} (h:zlp w a l) (i:Nat) (hi:i<l.length):∃ b off x1 y1 x3 y3 x4 y4 x5 y5,a=some ⟨b,off,none⟩/\ObAt w b (off+i*7) l[i] x1 y1 x3 y3 x4 y4 x5 y5/\l[i].uses.length<=y1:=by
 obtain ⟨b,off,x1,y1,x3,y3,x4,y4,x5,y5,ha,hO⟩:=DAt.ob h.1 i hi;obtain ⟨x,k,y,hc,hk⟩:=h.2 b off ha i hi;have h1:=hO.c1;rw [hc] at h1;cases h1;exact ⟨b,off,x1,y1,x3,y3,x4,y4,x5,y5,ha,hO,hk⟩
theorem z0h {w:World} {o:Ob} {x1 x3 x4 x5:OA} (y1 y3 y4 y5:Nat) (h:OvAt w o x1 x3 x4 x5):zap w Tt o.ds [.string o.name,.slice x1 o.uses.length y1,.int .i64 o.data,.slice x3 o.code.length y3,.slice x4 o.fixes.length y4,.slice x5 o.entries.length y5,.int .i64 o.main]:=by
 unfold Ob.ds;exact .cons (zeu h.wn) (.cons h.uses.val (.cons (zdl h.wd) (.cons h.code.val (.cons h.fixes.val (.cons h.entries.val (.cons (zdl h.wm) .nil))))))
theorem z6d {w:World} {o p:Ob} {x1 x3 x4 x5 u1 u3 u4 u5:OA} (y1 y3 y4 y5 v1 v3 v4 v5:Nat) (h:OvAt w o x1 x3 x4 x5) (k:OvAt w p u1 u3 u4 u5) (h1:o.uses.length<=y1) (k1:p.uses.length<=v1) (t:TypeId) :
 zlp (w.alloc (.cells #[.string o.name,.slice x1 o.uses.length y1,.int .i64 o.data,.slice x3 o.code.length y3,.slice x4 o.fixes.length y4,.slice x5 o.entries.length y5,.int .i64 o.main,.string p.name,.slice u1 p.uses.length v1,.int .i64 p.data,.slice u3 p.code.length v3,.slice u4 p.fixes.length v4,.slice u5 p.entries.length v5,.int .i64 p.main] t)) (some ⟨w.heap.size,0,none⟩) [o,p]:=by
 have hb:=Blk.new w #[.string o.name,.slice x1 o.uses.length y1,.int .i64 o.data,.slice x3 o.code.length y3,.slice x4 o.fixes.length y4,.slice x5 o.entries.length y5,.int .i64 o.main,.string p.name,.slice u1 p.uses.length v1,.int .i64 p.data,.slice u3 p.code.length v3,.slice u4 p.fixes.length v4,.slice u5 p.entries.length v5,.int .i64 p.main] t
 have e:z77 [o,p]=o.ds++p.ds:=by simp [z77]
 refine ⟨zb6 hb ?_ (by rw [e];simp [Ob.ds]) (by rw [e];simp [Ob.ds]),fun b off ha i hi=>?_⟩
 . rw [e]
   have m:zad w Tt (w.alloc (.cells #[.string o.name,.slice x1 o.uses.length y1,.int .i64 o.data,.slice x3 o.code.length y3,.slice x4 o.fixes.length y4,.slice x5 o.entries.length y5,.int .i64 o.main,.string p.name,.slice u1 p.uses.length v1,.int .i64 p.data,.slice u3 p.code.length v3,.slice u4 p.fixes.length v4,.slice u5 p.entries.length v5,.int .i64 p.main] t)) Tt:=⟨by simp,fun b hb _=>⟨trivial,(al1 _ _).block b hb⟩⟩
   exact (z0h y1 y3 y4 y5 (h.later (al1 _ _))).append (z0h v1 v3 v4 v5 (k.later (al1 _ _)))
 . cases ha
   have hi':i=0\/i=1:=by simp at hi;omega
   rcases hi' with rfl | rfl
   . exact ⟨x1,_,y1,hb.cell 1 _ rfl,h1⟩
   . exact ⟨u1,_,v1,hb.cell 8 _ rfl,k1⟩
def zpl:Ob:=zpt zti
theorem z6e:zw5 zti = .ok zpl:=by kernel_rfl
theorem ztm (p q:Un) (o r:Ob) (ho:zw5 p = .ok o) (hr:zw5 q = .ok r) (hP:∀ w:World,Calls Tryz.prog 75 #[] w fun e w'=>∃ a,e = .returned (.slice (some a) 2 2)/\DAt w' Tt (some a) 2 (z20 [p,q])/\Below w.heap.size w w') (w:World) :
 Calls Tryz.prog 85 #[] w fun e w'=>∃ a,e = .returned (.slice (some a) 2 2)/\zlp w' (some a) [o,r]/\Below w.heap.size w w':=by
 have HP:=hid hP;have HG1:=hid (fun (W:World) (x1:OA) (y1:Nat) (x2:OA) (y2:Nat) (x3:OA) (y3:Nat) (hU:UvAt W p x1 y1 x2 y2 x3 y3)=>z4c ho hU);have HG2:=hid (fun (W:World) (x1:OA) (y1:Nat) (x2:OA) (y2:Nat) (x3:OA) (y3:Nat) (hU:UvAt W q x1 y1 x2 y2 x3 y3)=>z4c hr hU);clear hP ho hr;go_enter Tryz.func85,Tryz.ntmps85;go_wp2_with fail;refine (HP.out _).mono ?_;rintro e w1 ⟨a,rfl,hD,hb1⟩;have HB1:=hid hb1;obtain ⟨b,off,a1,k1,a2,k2,a3,k3,ha,hx⟩:=(DAt.un (l:=[p,q]) hD) 0 (by simp);obtain rfl:=vab ha;have HU:=hid hx.uv;simp only [vbh,vbi,vbp] at hx HU;obtain ⟨hbl,z0,z1,z2,z3,z4,_,_,_,_,_⟩:=hx;clear hD hb1 ha;go_wp2_with fail;refine (HG1.out _ _ _ _ _ _ _ HU.out).mono ?_;rintro e w2 ⟨x1,y1,x3,y3,x4,y4,x5,y5,rfl,hO,hcp,hb2⟩
 have hBa:=al1 w2 (oC o x1 y1 x3 y3 x4 y4 x5 y5);have HB2:=hid (thenB HB1.out (thenB hb2 hBa));have HO:=hid (hO.later hBa);have HC:=hid hcp;have HX2:=hid (heap_newP w2 (oC o x1 y1 x3 y3 x4 y4 x5 y5));clear hO hcp hb2 hBa hbl z0 z1 z2 z3 z4 HU HB1;go_wp2_with fail
 obtain ⟨W2,hW2⟩:∃ W2,W2=w2.alloc (oC o x1 y1 x3 y3 x4 y4 x5 y5):=⟨_,rfl⟩
 rw [← hW2] at HB2 HO HX2 ⊢;clear hW2;refine (HP.out _).mono ?_;rintro e w3 ⟨a,rfl,hD,hb3⟩;have HB3:=hid (thenB HB2.out hb3);have HO3:=hid (HO.out.later hb3);have HX3:=hid (zbn HX2.out hb3);obtain ⟨b,off,a1,k1,a2,k2,a3,k3,ha,hx⟩:=(DAt.un (l:=[p,q]) hD) 1 (by simp);obtain rfl:=vab ha;have HU:=hid hx.uv;simp only [vbn,vbh,vdm] at hx HU;obtain ⟨hbl,z0,z1,z2,z3,z4,_,_,_,_,_⟩:=hx;clear hD hb3 ha HB2 HO HX2;go_wp2_with fail;refine (HG2.out _ _ _ _ _ _ _ HU.out).mono ?_;rintro e w4 ⟨u1,v1,u3,v3,u4,v4,u5,v5,rfl,hR,hcr,hb4⟩;have HB4:=hid (thenB HB3.out hb4);have HO4:=hid (HO3.out.later hb4);have HR4:=hid hR;have HCr:=hid hcr;have HX4:=hid (zbn HX3.out hb4);clear hR hcr hb4 hbl z0 z1 z2 z3 z4 HU HB3 HO3 HX3;obtain ⟨q0,q1,q2,q3,q4,q5,q6,qz⟩:=zao HX4.out
 go_wp2_with fail;go_ret;refine ⟨_,rfl,?_,thenB HB4.out (bl2 _ _ _)⟩;have:=z6d y1 y3 y4 y5 v1 v3 v4 v5 (HO4.out.later (al1 w4 (oC r u1 v1 u3 v3 u4 v4 u5 v5))) (HR4.out.later (al1 w4 (oC r u1 v1 u3 v3 u4 v4 u5 v5))) HC.out HCr.out 62;simp only [vcm] at this;exact this
theorem ztn (w:World) :
 Calls Tryz.prog 85 #[] w fun e w'=>∃ a,e = .returned (.slice (some a) 2 2)/\zlp w' (some a) [zri,zpl]/\Below w.heap.size w w':=
 ztm zth zti zri zpl z6c z6e ztl w
theorem z4f {B:Nat} {a w:World} (h:Below B a w) (m:Nat):Below B a (w.drewN m):=⟨h.os,h.tape,h.output,h.size,h.block⟩
end Go.Proofs.YtndkhgakfodldaaGreatDoor

namespace Go.Proofs.YtndkhgakfodldaaGreatDoor
set_option maxRecDepth 100000
set_option maxHeartbeats 800000
open Go.RowKit Go.Shelf
set_option linter.unusedSimpArgs false
set_option linter.unusedVariables false
structure Wk where
 au:OA
 cu:Nat
 an:OA
 cn:Nat
 ab:OA
 cb:Nat
 D:Nat
 cd:Nat
 S:Nat
def natI (l:List Nat):List Int:=l.map Int.ofNat
def zto (l:List (List Nat)):List D:=l.map fun r=>.list r.length (zfy (natI r))
abbrev wC (cx:Cx) (K:Wk) (ai:OA) (ci:Nat) (vo:Value) (s:Sw) (e:Int):Array Value:=#[.slice K.au cx.us.length K.cu,.slice K.an cx.near.length K.cn,.slice K.ab cx.beg.length K.cb,.slice (some ⟨K.D,0,none⟩) s.data.length K.cd,.slice ai s.inp.length ci,vo,.int .i64 cx.lim,.int .i64 s.ticks,.int .i64 s.calls,.int .i64 e]
structure Ro (w:World) (B base:Nat) (cx:Cx) (K:Wk):Prop where
 us:DAt w (·<base) K.au cx.us.length (z20 cx.us)
 near:DAt w (fun b=>b<K.S/\b≠B/\b≠K.D) K.an cx.near.length (zto cx.near)
 beg:DAt w (fun b=>b<K.S/\b≠B/\b≠K.D) K.ab cx.beg.length (zfy cx.beg)
 lB:base<=B
 lD:base<=K.D
 BS:B<K.S
 DS:K.D<K.S
 BD:B≠K.D
 zS:K.S<=w.heap.size
theorem Ro.moves {w w':World} {B base:Nat} {cx:Cx} {K:Wk} (h:Ro w B base cx K) (hz:w.heap.size<=w'.heap.size) (hk:∀ b,b<K.S->b≠B->b≠K.D->w'.heap[b]? = w.heap[b]?):Ro w' B base cx K:=
 have h1:=h.lB;have h2:=h.lD;have h3:=h.BS
 ⟨h.us.moves ⟨hz,fun b _ hl=>⟨hl,hk b (by omega) (by omega) (by omega)⟩⟩,h.near.moves ⟨hz,fun b _ hl=>⟨hl,hk b hl.1 hl.2.1 hl.2.2⟩⟩,h.beg.moves ⟨hz,fun b _ hl=>⟨hl,hk b hl.1 hl.2.1 hl.2.2⟩⟩,h.lB,h.lD,h.BS,h.DS,h.BD,vbc h.zS hz⟩
structure Wd (w:World) (B base:Nat) (cx:Cx) (K:Wk) (vo:Value) (s:Sw) (e:Int):Prop where
 blk:∃ ai ci,w.heap[B]? = some (.cells (wC cx K ai ci vo s e) 128 (0,0))/\DAt w (·<base) ai s.inp.length (zfy s.inp)/\s.inp.length<=ci
 data:w.heap[K.D]? = some (.cells (intV s.data).toArray 3 (0,0))
 out:w.ownsRow K.S 3 1 vo s.out.length (intV s.out)
 ro:Ro w B base cx K
 cd:K.cd=s.data.length
 dl:s.data.length<=512
 tl:s.ticks<=cx.lim
 tm:cx.lim<=1000000
 cl:s.calls<=24
 ol:s.out.length<=200
theorem Wd.oB {w:World} {B base:Nat} {cx:Cx} {K:Wk} {vo:Value} {s:Sw} {e:Int} (h:Wd w B base cx K vo s e):vo.ownBlock≠some B:=fun x=>by have:=(h.out.lt B x).1;have:=h.ro.BS;omega
theorem Wd.oD {w:World} {B base:Nat} {cx:Cx} {K:Wk} {vo:Value} {s:Sw} {e:Int} (h:Wd w B base cx K vo s e):vo.ownBlock≠some K.D:=fun x=>by have:=(h.out.lt K.D x).1;have:=h.ro.DS;omega
structure Fm (B D:Nat) (vo vo':Value) (w w':World):Prop where
 os:w'.os=w.os
 tape:w'.tape=w.tape
 output:w'.output=w.output
 size:w.heap.size<=w'.heap.size
 block:∀ b,b<w.heap.size->b≠B->b≠D->vo.ownBlock≠some b->w'.heap[b]? = w.heap[b]?
 own:∀ k,vo'.ownBlock=some k->k<w.heap.size->vo.ownBlock=some k
theorem Fm.refl (B D:Nat) (vo:Value) (w:World):Fm B D vo vo w w:=⟨rfl,rfl,rfl,vaa _,fun _ _ _ _ _=>rfl,fun _ h _=>h⟩
theorem Fm.trans {B D:Nat} {v1 v2 v3:Value} {a b c:World} (h:Fm B D v1 v2 a b) (k:Fm B D v2 v3 b c):Fm B D v1 v3 a c:=
 ⟨k.os.trans h.os,k.tape.trans h.tape,k.output.trans h.output,vbc h.size k.size,fun x hx h1 h2 h3=>(k.block x (vah hx h.size) h1 h2 (fun e=>h3 (h.own x e hx))).trans (h.block x hx h1 h2 h3),fun x e hx=>h.own x (k.own x e (vah hx h.size)) hx⟩
theorem Fm.grown {B D:Nat} {vo:Value} {w w':World} (h:w.grownBy w' (some B)):Fm B D vo vo w w':=⟨h.os,h.tape,h.output,h.size,fun b hb h1 _ _=>h.block b hb (fun e=>h1 (vab e)),fun _ h _=>h⟩
theorem Fm.below {B D:Nat} {vo:Value} {w w':World} (h:Below w.heap.size w w'):Fm B D vo vo w w':=⟨h.os,h.tape,h.output,h.size,fun b hb _ _ _=>h.block b hb,fun _ h _=>h⟩
abbrev z6f (c:Int):List PanicEntry:=[{ v:=.iface 3 (.int .i64 c),recovered:=false }]
def Sr {α:Type} (rep:α->Value) (B base:Nat) (cx:Cx) (K:Wk) (w:World) (vo:Value) (r:Rr α) (e:Ending) (w':World):Prop:=
 ∃ vo',Fm B K.D vo vo' w w'/\((∃ a s,r = .ok a s/\e = .returned (rep a)/\Wd w' B base cx K vo' s 0)\/(∃ c s,r = .stop c s/\e = .panicked (z6f c)/\Wd w' B base cx K vo' s c))
def yag (n:Int):Value:=.int .i64 n
def z9m (_:Unit):Value:=.tuple #[]
theorem ze3 {w:World} {b:Nat} {x0 x1 x2 x3 x4 x5 x6 x7 x8 x9:Value} {t:TypeId} (h:w.heap[b]? = some (.cells #[x0,x1,x2,x3,x4,x5,x6,x7,x8,x9] t (0,0))) :
 w.cell? ⟨b,0,none⟩=some x0/\w.cell? ⟨b,1,none⟩=some x1/\w.cell? ⟨b,2,none⟩=some x2/\w.cell? ⟨b,3,none⟩=some x3/\w.cell? ⟨b,4,none⟩=some x4/\w.cell? ⟨b,5,none⟩=some x5/\w.cell? ⟨b,6,none⟩=some x6/\w.cell? ⟨b,7,none⟩=some x7/\w.cell? ⟨b,8,none⟩=some x8/\w.cell? ⟨b,9,none⟩=some x9/\b<w.heap.size/\∀ j,w.frozen? ⟨b,j,none⟩=false:=by
 refine ⟨?_,?_,?_,?_,?_,?_,?_,?_,?_,?_,lt_of_heap h,fun j=>veg h j⟩<;>(rw [vef h];rfl)
theorem zef {w:World} {B i:Nat} {u:Value}:w.grownBy (w.setCell ⟨B,i,none⟩ u) (some B):=⟨rfl,rfl,rfl,by simp,fun k _ hne=>heap_set_ne (fun e=>hne (by rw [e])) u⟩
theorem Wd.put {w:World} {B base:Nat} {cx:Cx} {K:Wk} {vo:Value} {s s':Sw} {e e':Int} {i:Nat} {u:Value} (h:Wd w B base cx K vo s e) (hs:∀ ai ci,(wC cx K ai ci vo s e).setIfInBounds i u=wC cx K ai ci vo s' e') (h1:s'.data=s.data) (h2:s'.inp=s.inp) (h3:s'.out=s.out) (h4:s'.ticks<=cx.lim) (h5:s'.calls<=24):Wd (w.setCell ⟨B,i,none⟩ u) B base cx K vo s' e':=by
 obtain ⟨ai,ci,hb,hi,hc⟩:=h.blk;have h6:=h.ro.lB;refine ⟨⟨ai,ci,?_,?_,by rw [h2];exact hc⟩,?_,?_,h.ro.moves (by simp) (fun b _ hn _=>heap_set_ne (by show b≠B;exact hn) u),by rw [h1];exact h.cd,by rw [h1];exact h.dl,h4,h.tm,h5,by rw [h3];exact h.ol⟩
 . rw [heap_set hb u,hs]
 . rw [h2]
   exact hi.moves ⟨by simp,fun b _ hlt=>⟨hlt,heap_set_ne (by show b≠B;omega) u⟩⟩
 . rw [h1]
   exact (heap_set_ne (by show K.D≠B;exact fun e=>h.ro.BD e.symm) u).trans h.data
 . rw [h3]
   exact zai h.out (fun k hk=>heap_set_ne (fun e=>h.oB (by rw [hk];exact congrArg some e)) u)
theorem stop_any (B base:Nat) (cx:Cx) (K:Wk) (vo:Value) (s:Sw) (c:Int) (w:World) (h:Wd w B base cx K vo s 0) :
 Calls Tryz.prog 167 #[.pointer (some ⟨B,0,none⟩),.int .i64 c] w fun e w'=>e = .panicked (z6f c)/\w.grownBy w' (some B)/\Wd w' B base cx K vo s c:=by
 obtain ⟨ai,ci,hb,_,_⟩:=h.blk;obtain ⟨q0,q1,q2,q3,q4,q5,q6,q7,q8,q9,qz,qf⟩:=ze3 hb;have HP:=hid (h.put (i:=9) (u:=.int .i64 c) (s':=s) (e':=c) (fun _ _=>rfl) rfl rfl rfl h.tl h.cl);clear h hb;go_enter Tryz.func167,Tryz.ntmps167;go_wp2_with fail;exact ⟨rfl,rfl,zef,HP.out⟩
set_option maxHeartbeats 1600000
theorem Wd.below {w w':World} {B base:Nat} {cx:Cx} {K:Wk} {vo:Value} {s:Sw} {e:Int} (h:Wd w B base cx K vo s e) (hb:Below w.heap.size w w'):Wd w' B base cx K vo s e:=by
 obtain ⟨ai,ci,hB,hi,hc⟩:=h.blk;have hl:=lt_of_heap hB;exact ⟨⟨ai,ci,(hb.block _ hl).trans hB,hi.moves ⟨hb.size,fun b hx hlt=>⟨hlt,hb.block b hx⟩⟩,hc⟩,(hb.block _ (lt_of_heap h.data)).trans h.data,ownsRow_later h.out hb,h.ro.moves hb.size (fun b h1 _ _=>hb.block b (vah h1 h.ro.zS)),h.cd,h.dl,h.tl,h.tm,h.cl,h.ol⟩
theorem bd (w:World) (m:Nat):Below w.heap.size w (w.drewN m):=z4f (Below.refl _ _) m
theorem tick_any (B base:Nat) (cx:Cx) (K:Wk) (vo:Value) (s:Sw) (w:World) (h:Wd w B base cx K vo s 0) :
 Calls Tryz.prog 166 #[.pointer (some ⟨B,0,none⟩)] w fun e w'=>Sr z9m B base cx K w vo (zjm cx.lim s) e w':=by
 obtain ⟨ai,ci,hb,_,_⟩:=h.blk;obtain ⟨q0,q1,q2,q3,q4,q5,q6,q7,q8,q9,qz,qf⟩:=ze3 hb;have htl:=h.tl;have htm:=h.tm;have HW:=hid h;clear h hb
 by_cases ht:s.ticks=cx.lim
 . have HR:Hid (zjm cx.lim s = .stop 3 s):=if_pos ht
   have HS:=hid (fun W (hW:Below w.heap.size w W)=>stop_any B base cx K vo s 3 W (HW.out.below hW))
   have hbt:((s.ticks:Int) == (cx.lim:Int))=true:=by rw [ht];simp
   go_enter Tryz.func166,Tryz.ntmps166;go_wp2_with fail
   go_quiet ((fail))
   go_wp2_with fail;refine (HS.out _ (bd w _)).mono ?_;rintro e w1 ⟨rfl,hg,hw⟩;exact ⟨rfl,vo,(Fm.below (bd w _)).trans (Fm.grown hg),Or.inr ⟨3,s,HR.out,rfl,hw⟩⟩
 . have HR:Hid (zjm cx.lim s = .ok () { s with ticks:=s.ticks+1 }):=if_neg ht
   have hbt:((s.ticks:Int) == (cx.lim:Int))=false:=by rw [beq_eq_false_iff_ne];omega
   have HP:=hid (fun W (hW:Below w.heap.size w W)=>(HW.out.below hW).put (i:=7) (u:=.int .i64 ((s.ticks:Int)+1)) (s':={ s with ticks:=s.ticks+1 }) (e':=0) (fun _ _=>rfl) rfl rfl rfl (by show s.ticks+1<=cx.lim;omega) HW.out.cl);go_enter Tryz.func166,Tryz.ntmps166;go_wp2_with fail
   go_quiet ((fail))
   go_wp2_with fail;go_end0;exact ⟨vo,(Fm.below (bd w _)).trans (Fm.grown zef),Or.inl ⟨(),_,HR.out,rfl,HP.out _ (bd w _)⟩⟩
end Go.Proofs.YtndkhgakfodldaaGreatDoor
