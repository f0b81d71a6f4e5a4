import Derived.Test.YtndkhgakfodldaaGreatDoorUs
import Derived.Test.YtndkhgakfodldaaGreatDoorPo
namespace Go.Proofs.YtndkhgakfodldaaGreatDoor
set_option maxRecDepth 100000
set_option maxHeartbeats 1600000
open Go.RowKit Go.Maps Go.WideMaps
set_option linter.unusedSimpArgs false
def zyb:Fc:=⟨⟨#[99,110,116]⟩,[⟨1,3,0,⟨#[107]⟩⟩,⟨2,0,0,⟨#[115,117,109]⟩⟩,⟨3,4,1,⟨#[116]⟩⟩,⟨4,1,0,⟨#[100,111,119,110]⟩⟩]⟩
def yav (r:Except Int Un):Un:=match r with | .ok u=>u | .error _=>⟨⟨#[]⟩,[],0,[],[]⟩
def zu0:Un:=yav (zfb zqn [])
def zu1:Un:=yav (zfb znx [zyb])
theorem z7c:zfb zqn [] = .ok zu0:=by kernel_rfl
theorem z7d:zfb znx [zyb] = .ok zu1:=by kernel_rfl
theorem EAt.num {w:World} {A:Nat->Prop} {a:OA} {n:Nat} {ds:List D} (h:EAt w A a n ds) (hn:n≠0):∃ b off,a=some ⟨b,off,none⟩/\b<w.heap.size/\A b/\∀ (j:Nat) (k:Int),ds[j]? = some (.int k)->w.cell? ⟨b,off+j,none⟩=some (.int .i64 k):=by
 rcases h with h | ⟨b,off,cs,ha,hA,hb,hc,hx⟩
 . exact absurd h hn
 . refine ⟨b,off,ha,hb,hA,fun j k hj=>?_⟩
   obtain ⟨v,hv,hd⟩:=hx.get j _ hj;rw [zqr hd] at hv;exact hc j _ hv
theorem zu2 (w:World) :
 Calls Tryz.prog 57 #[] w fun e w'=>∃ ad cap,e = .returned (.agg #[.string ⟨#[99,110,116]⟩,.slice ad 4 cap])/\DAt w' Tt ad 4 (zhp zyb.items)/\Below w.heap.size w w':=by
 go_enter Tryz.func57,Tryz.ntmps57;go_wp2_with fail
 obtain ⟨W,hW⟩:∃ W,W=allocsC w [(#[.string ⟨#[99,110,116]⟩,.slice (some ⟨w.heap.size+1,0,none⟩) 4 4],30),(#[.int .i64 1,.int .i64 3,.int .i64 0,.string ⟨#[107]⟩,.int .i64 2,.int .i64 0,.int .i64 0,.string ⟨#[115,117,109]⟩,.int .i64 3,.int .i64 4,.int .i64 1,.string ⟨#[116]⟩,.int .i64 4,.int .i64 1,.int .i64 0,.string ⟨#[100,111,119,110]⟩],98)]:=⟨_,rfl⟩
 have hB:Below w.heap.size w W:=by rw [hW];exact ze8 _ _
 have hD:DAt W Tt (some ⟨w.heap.size+1,0,none⟩) 4 (zhp zyb.items):=by
  rw [hW];refine zci (za4 w _ 1 _ _ rfl) ?_ (by decide) (by decide);exact .cons (zdk rfl) (.cons (zdk rfl) (.cons (zdk rfl) (.cons (zfl (by decide)) (.cons (zdk rfl) (.cons (zdk rfl) (.cons (zdk rfl) (.cons (zfl (by decide)) (.cons (zdk rfl) (.cons (zdk rfl) (.cons (zdk rfl) (.cons (zfl (by decide)) (.cons (zdk rfl) (.cons (zdk rfl) (.cons (zdk rfl) (.cons (zfl (by decide)) .nil)))))))))))))))
 refine bodyPost_ret (v:=.agg #[.string ⟨#[99,110,116]⟩,.slice (some ⟨w.heap.size+1,0,none⟩) 4 4]) (by simp [results,Tryz.results57,go_sem]) rfl ⟨some ⟨w.heap.size+1,0,none⟩,4,rfl,?_,?_⟩
 . rw [hW] at hD;exact hD
 . rw [hW] at hB;exact hB
theorem z1m (w:World):Calls Tryz.prog 55 #[.string z5i] w fun e w'=>∃ v a1 c1 a2 c2 a3 c3 a4 c4,e = .returned (.tuple #[v,.int .i64 0])/\MoAt w' Tt znx v a1 c1 a2 c2 a3 c3 a4 c4/\Below w.heap.size w w':=
 (z0q z5i w (by decide)).mono fun e w' ⟨h,hb⟩=>by
   rcases h with ⟨h,_⟩ | ⟨m,v,a1,c1,a2,c2,a3,c3,a4,c4,hp,_,he,hM⟩
   . rw [zwb] at h;cases h
   . rw [zwb] at hp
     obtain rfl:=vac hp;exact ⟨v,a1,c1,a2,c2,a3,c3,a4,c4,he,hM,hb⟩
set_option maxHeartbeats 12800000
structure Sg (w W:World) (b1 b3 b5:Nat) (a:OA) (cap:Nat) (s:ByteArray) (x1:OA) (n1 y1:Nat) (b2 o2 y2:Nat) (x3:OA) (n3 y3:Nat) (z1:OA) (d1:Nat) (z2:OA) (d2:Nat) (z3:OA) (d3:Nat) (z4:OA) (d4:Nat):Prop where
 below:Below w.heap.size w W
 h1:W.heap[b1]? = some (.cells #[.string ⟨#[99,110,116]⟩,.slice a 4 cap] 30 (0,0))
 its:Fx.zdf W a zyb.items
 fit:Fx.AllFit zyb.items
 h3:W.heap[b3]? = some (.cells #[.string s,.slice x1 n1 y1,.int .i64 5,.slice (some ⟨b2,o2,none⟩) 1 y2,.slice x3 n3 y3] 42 (0,0))
 l3:b2<W.heap.size
 c3:W.cell? ⟨b2,o2+1,none⟩=some (.int .i64 1)
 h5:W.heap[b5]? = some (.cells #[.string ⟨#[116,111,112]⟩,.slice z1 1 d1,.slice z2 0 d2,.slice z3 0 d3,.slice z4 3 d4] 27 (0,0))
 mo:MoAt W Tt znx (.agg #[.string ⟨#[116,111,112]⟩,.slice z1 1 d1,.slice z2 0 d2,.slice z3 0 d3,.slice z4 3 d4]) z1 d1 z2 d2 z3 d3 z4 d4
theorem Sg.later {w W W':World} {b1 b3 b5:Nat} {a:OA} {cap:Nat} {s:ByteArray} {x1:OA} {n1 y1 b2 o2 y2:Nat} {x3:OA} {n3 y3:Nat} {z1 z2 z3 z4:OA} {d1 d2 d3 d4:Nat} (h:Sg w W b1 b3 b5 a cap s x1 n1 y1 b2 o2 y2 x3 n3 y3 z1 d1 z2 d2 z3 d3 z4 d4) (hb:Below W.heap.size W W'):Sg w W' b1 b3 b5 a cap s x1 n1 y1 b2 o2 y2 x3 n3 y3 z1 d1 z2 d2 z3 d3 z4 d4:=
 ⟨h.below.trans (hb.mono h.below.size),(hb.block _ (zab h.h1)).trans h.h1,h.its.later hb,h.fit,(hb.block _ (zab h.h3)).trans h.h3,vah h.l3 hb.size,(hb.cell (p:=⟨b2,o2+1,none⟩) h.l3).trans h.c3,(hb.block _ (zab h.h5)).trans h.h5,h.mo.later hb⟩
structure Tg (W:World) (b7:Nat) (s:ByteArray) (x1:OA) (n1 y1:Nat) (d:Int) (x2:OA) (n2 y2 b3 o3 y3:Nat):Prop where
 h7:W.heap[b7]? = some (.cells #[.string s,.slice x1 n1 y1,.int .i64 d,.slice x2 n2 y2,.slice (some ⟨b3,o3,none⟩) 3 y3] 42 (0,0))
 l7:b3<W.heap.size
 n:W.cell? ⟨b3,o3+1,none⟩=some (.int .i64 4)
 m:W.cell? ⟨b3,o3+2,none⟩=some (.int .i64 1)
 at':W.cell? ⟨b3,o3+3,none⟩=some (.int .i64 1)
theorem Tg.later {W W':World} {b7:Nat} {s:ByteArray} {x1:OA} {n1 y1:Nat} {d:Int} {x2:OA} {n2 y2 b3 o3 y3:Nat} (h:Tg W b7 s x1 n1 y1 d x2 n2 y2 b3 o3 y3) (hb:Below W.heap.size W W'):Tg W' b7 s x1 n1 y1 d x2 n2 y2 b3 o3 y3:=
 ⟨(hb.block _ (zab h.h7)).trans h.h7,vah h.l7 hb.size,(hb.cell (p:=⟨b3,o3+1,none⟩) h.l7).trans h.n,(hb.cell (p:=⟨b3,o3+2,none⟩) h.l7).trans h.m,(hb.cell (p:=⟨b3,o3+3,none⟩) h.l7).trans h.at'⟩
theorem zra {w:World} {ad:OA} {cp:Nat} (hD:DAt w Tt ad 4 (zhp zyb.items)) (t:TypeId):DAt (w.alloc (.cells #[.string ⟨#[99,110,116]⟩,.slice ad 4 cp] t)) Tt (some ⟨w.heap.size,0,none⟩) 1 (z63 [zyb]):=by
 refine zci (za4 w [(#[.string ⟨#[99,110,116]⟩,.slice ad 4 cp],t)] 0 _ _ rfl) ?_ (by decide) (by decide);exact .cons (zfl (by decide)) (.cons (hD.moves ⟨by simp,fun b hb _=>⟨trivial,(al1 _ _).block b hb⟩⟩).val .nil)
theorem z1n {w:World} {ad:OA} {cp:Nat} (hD:DAt w Tt ad 4 (zhp zyb.items)) (o:Obj) (t:TypeId):DAt ((w.alloc o).alloc (.cells #[.string ⟨#[99,110,116]⟩,.slice ad 4 cp] t)) Tt (some ⟨w.heap.size+1,0,none⟩) 1 (z63 [zyb]):=by
 have:=zra (cp:=cp) (hD.moves (w':=w.alloc o) ⟨by simp,fun b hb _=>⟨trivial,(al1 _ _).block b hb⟩⟩) t;simpa using this
theorem yar {W:World} {b:Nat} {v0 v1 v2 v3 v4:Value} {t:TypeId} (h:W.heap[b]? = some (.cells #[v0,v1,v2,v3,v4] t (0,0))):W.cell? ⟨b,0,none⟩=some v0/\W.cell? ⟨b,1,none⟩=some v1/\W.cell? ⟨b,2,none⟩=some v2/\W.cell? ⟨b,3,none⟩=some v3/\W.cell? ⟨b,4,none⟩=some v4:=
 have h3:=zad h
 ⟨h3.1,h3.2.1,h3.2.2.1,h3.2.2.2.1,h3.2.2.2.2.1⟩
theorem zak {w w':World} {b:Nat} {x:Obj} (h:w.heap[b]? = some x) (hb:Below w.heap.size w w'):w'.heap[b]? = some x:=(hb.block _ (zab h)).trans h
theorem yas (w:World) (o:Obj):(w.alloc o).drew.heap[w.heap.size]? = some o:=heap_newP w o
theorem z1o (w:World) (o p:Obj):((w.alloc o).alloc p).heap[w.heap.size+1]? = some p:=by simpa using heap_newP (w.alloc o) p
set_option maxHeartbeats 6400000
set_option linter.unusedVariables false
mutual
def D.fineB:D->Bool
 | .int n=>(Lit.int .i64 n).wf
 | .str _=>true
 | .bool _=>true
 | .list n ds=>decide (n<=ds.length)&&(decide (ds.length<=17592186044416)&&zwz ds)
def zwz:List D->Bool
 | []=>true
 | d :: ds=>d.fineB&&zwz ds
end
mutual
theorem z7e:∀ d:D,d.fineB=true->d.fine
 | .int _,h=>by unfold D.fineB at h;unfold D.fine;exact h
 | .str _,_=>by unfold D.fine;trivial
 | .bool _,_=>by unfold D.fine;trivial
 | .list n ds,h=>by
   unfold D.fineB at h;unfold D.fine;simp only [vad,decide_eq_true_eq] at h;exact ⟨h.1,h.2.1,zlk ds h.2.2⟩
theorem zlk:∀ l:List D,zwz l=true->D.fines l
 | [],_=>by unfold D.fines;trivial
 | d :: ds,h=>by
   unfold zwz at h;unfold D.fines;rw [vad] at h;exact ⟨z7e d h.1,zlk ds h.2⟩
end
def Uls (w:World) (A:Nat->Prop) (u:Un) (x1 x2 x3:OA):Prop:=DAt w A x1 u.uses.length (zao u.uses)/\DAt w A x2 u.parts.length (zmq u.parts)/\DAt w A x3 u.main.length (zew u.main)
theorem Uls.moves {w w':World} {A A':Nat->Prop} {u:Un} {x1 x2 x3:OA} (h:Uls w A u x1 x2 x3) (m:zai w A w' A'):Uls w' A' u x1 x2 x3:=⟨h.1.moves m,h.2.1.moves m,h.2.2.moves m⟩
theorem z82 {w:World} {A:Nat->Prop} {u:Un} {x1 x2 x3:OA} (hf:D.fines u.ds) (h1:EAt w A x1 u.uses.length (zao u.uses)) (h2:EAt w A x2 u.parts.length (zmq u.parts)) (h3:EAt w A x3 u.main.length (zew u.main)):Uls w A u x1 x2 x3:=by
 simp only [Un.ds,D.fines,D.fine] at hf;obtain ⟨_,⟨a1,a2,a3⟩,_,⟨b1,b2,b3⟩,⟨c1,c2,c3⟩,_⟩:=hf;exact ⟨h1.toD a1 a2 a3,h2.toD b1 b2 b3,h3.toD c1 c2 c3⟩
structure UnIn (w:World) (b:Nat) (u:Un) (x1:OA) (xc1:Nat) (x2:OA) (xc2:Nat) (x3:OA) (xc3:Nat):Prop where
 blk:w.heap[b]? = some (.cells #[.string u.name,.slice x1 u.uses.length xc1,.int .i64 u.data,.slice x2 u.parts.length xc2,.slice x3 u.main.length xc3] 42 (0,0))
 ls:Uls w Tt u x1 x2 x3
theorem UnIn.later {w w':World} {b:Nat} {u:Un} {x1 x2 x3:OA} {xc1 xc2 xc3:Nat} (h:UnIn w b u x1 xc1 x2 xc2 x3 xc3) (hb:Below w.heap.size w w'):UnIn w' b u x1 xc1 x2 xc2 x3 xc3:=
 ⟨zak h.blk hb,h.ls.moves (zai.of_below hb _)⟩
def z5r (u:Un) (w:World) (e:Ending) (w':World):Prop:=∃ x1 xc1 x2 xc2 x3 xc3,e = .returned (.tuple #[.agg #[.string u.name,.slice x1 u.uses.length xc1,.int .i64 u.data,.slice x2 u.parts.length xc2,.slice x3 u.main.length xc3],.int .i64 0])/\Uls w' (w.heap.size<=·) u x1 x2 x3/\Below w.heap.size w w'
theorem z5s {m:Mo} {l:List Fc} {u:Un} (hr:zfb m l = .ok u) (hf:D.fines u.ds) {w:World} {v:Value} {a1 a2 a3 a4:OA} {c1 c2 c3 c4:Nat} (hM:MoAt w Tt m v a1 c1 a2 c2 a3 c3 a4 c4) {al:OA} (cl:Nat) (hF:DAt w Tt al l.length (z63 l)) :
 Calls Tryz.prog 21 #[v,.slice al l.length cl] w fun e w'=>z5r u w e w':=
 (zuz m v a1 c1 a2 c2 a3 c3 a4 c4 l al cl w hM hF).mono fun e w' ⟨h,hb⟩=>by
   rw [hr] at h;obtain ⟨x1,y1,x2,y2,x3,y3,he,h1,h2,h3⟩:=h;exact ⟨x1,y1,x2,y2,x3,y3,he,z82 hf h1 h2 h3,hb⟩
theorem Uls.new {w:World} {A:Nat->Prop} {u:Un} {x1 x2 x3:OA} (xc1 xc2 xc3:Nat) (h:Uls w A u x1 x2 x3) (t:TypeId) (ht:t=42):UnIn (w.alloc (.cells #[.string u.name,.slice x1 u.uses.length xc1,.int .i64 u.data,.slice x2 u.parts.length xc2,.slice x3 u.main.length xc3] t)) w.heap.size u x1 xc1 x2 xc2 x3 xc3:=by
 subst ht;exact ⟨heap_newP _ _,h.moves ⟨by simp,fun b hb _=>⟨trivial,(al1 _ _).block b hb⟩⟩⟩
theorem Uls.set {w:World} {lo b:Nat} {u:Un} {x1 x2 x3:OA} (xc1 xc2 xc3:Nat) {v0 v1 v2 v3 v4:Value} (h:Uls w (lo<=·) u x1 x2 x3) (hz:w.heap[b]? = some (.cells #[v0,v1,v2,v3,v4] 42)) (hb:b<lo):UnIn (set5 w b (.string u.name) (.slice x1 u.uses.length xc1) (.int .i64 u.data) (.slice x2 u.parts.length xc2) (.slice x3 u.main.length xc3)) b u x1 xc1 x2 xc2 x3 xc3:=by
 refine ⟨zag (zag (zag (zag (zag hz _) _) _) _) _,h.moves ⟨by simp [set5],fun k hk hl=>⟨trivial,?_⟩⟩⟩
 have hn:k≠b:=by omega
 exact (zac hn _).trans ((zac hn _).trans ((zac hn _).trans ((zac hn _).trans (zac hn _))))
theorem z83 {w:World} {u:Un} {x1 x2 x3:OA} (xc1 xc2 xc3:Nat) (hf:D.fines u.ds) (hn:u.name.size<=maxLen) (h:Uls w Tt u x1 x2 x3):zav w Tt u.ds [.string u.name,.slice x1 u.uses.length xc1,.int .i64 u.data,.slice x2 u.parts.length xc2,.slice x3 u.main.length xc3]:=by
 simp only [Un.ds,D.fines,D.fine] at hf;unfold Un.ds;exact .cons (zfl hn) (.cons h.1.val (.cons (zdk hf.2.2.1) (.cons h.2.1.val (.cons h.2.2.val .nil))))
theorem zu3 (u t:Un) (hu:zfb zqn [] = .ok u) (ht:zfb znx [zyb] = .ok t) (hfu:D.fines u.ds) (hft:D.fines t.ds) (hnu:u.name.size<=maxLen) (hnt:t.name.size<=maxLen) (w:World) :
 Calls Tryz.prog 75 #[] w fun e w'=>∃ a,e = .returned (.slice (some a) 2 2)/\DAt w' Tt (some a) 2 (z5m [u,t])/\Below w.heap.size w w':=by
 have HU:=hid (fun (W:World) (v:Value) (a1:OA) (c1:Nat) (a2:OA) (c2:Nat) (a3:OA) (c3:Nat) (a4:OA) (c4:Nat) (hM:MoAt W Tt zqn v a1 c1 a2 c2 a3 c3 a4 c4)=>z5s hu hfu hM (al:=none) 0 ⟨vaa _,vae _,Or.inl rfl⟩)
 have HT:Hid (∀ (W:World) (v:Value) (a1:OA) (c1:Nat) (a2:OA) (c2:Nat) (a3:OA) (c3:Nat) (a4:OA) (c4:Nat),MoAt W Tt znx v a1 c1 a2 c2 a3 c3 a4 c4->∀ (al:OA) (cl:Nat),DAt W Tt al 1 (z63 [zyb])->Calls Tryz.prog 21 #[v,.slice al 1 cl] W fun e w'=>z5r t W e w'):=fun W v a1 c1 a2 c2 a3 c3 a4 c4 hM al cl hF=>z5s ht hft hM (l:=[zyb]) cl hF
 have HFu:=hid (And.intro hfu hnu);have HFt:=hid (And.intro hft hnt);clear hu ht hfu hft hnu hnt;go_enter Tryz.func75,Tryz.ntmps75;go_wp2_with fail;refine (zul _).mono ?_;rintro e w1 ⟨v,a1,c1,a2,c2,a3,c3,a4,c4,rfl,hM,hb1⟩;have HM:=hid hM;have HB1:=hid hb1;clear hM hb1;go_wp2_with fail;refine (HU.out _ _ _ _ _ _ _ _ _ _ HM.out).mono ?_;rintro e w2 ⟨x1,xc1,x2,xc2,x3,xc3,rfl,hC,hb2⟩;have HN:=hid (hC.new xc1 xc2 xc3 42 rfl);have HB2:=hid (thenB HB1.out (thenB hb2 (al1 w2 (.cells #[.string u.name,.slice x1 u.uses.length xc1,.int .i64 u.data,.slice x2 u.parts.length xc2,.slice x3 u.main.length xc3] 42))));clear hC hb2 HM HB1;go_wp2_with fail
 obtain ⟨W2,hW2⟩:∃ W2,W2=w2.alloc (.cells #[.string u.name,.slice x1 u.uses.length xc1,.int .i64 u.data,.slice x2 u.parts.length xc2,.slice x3 u.main.length xc3] 42):=⟨_,rfl⟩
 rw [← hW2] at HN HB2 ⊢;clear hW2;refine (zum _).mono ?_;rintro e w5 ⟨rfl,h5⟩
 have hB5:Below W2.heap.size W2 w5:=by rw [h5];exact Below.refl _ _
 clear h5;go_wp2_with fail;refine (z1m w5).mono ?_;rintro e w6 ⟨u',z1,d1,z2,d2,z3,d3,z4,d4,rfl,hM,hb6⟩;have hB6:=thenB hB5 hb6;obtain rfl:u' = .agg #[.string ⟨#[116,111,112]⟩,.slice z1 1 d1,.slice z2 0 d2,.slice z3 0 d3,.slice z4 3 d4]:=hM.val;have HM:=hid hM;have HB6:=hid hB6;clear hM hB6 hb6 hB5;go_wp2_with fail
 obtain ⟨W6,hW6⟩:∃ W6,W6=w6.alloc (.cells #[.string ⟨#[116,111,112]⟩,.slice z1 1 d1,.slice z2 0 d2,.slice z3 0 d3,.slice z4 3 d4] 27):=⟨_,rfl⟩
 have hB7:Below w6.heap.size w6 W6:=by rw [hW6];exact al1 _ _
 have hB:=thenB HB6.out hB7;have HSB:=hid (thenB HB2.out hB);have HSU:=hid (HN.out.later hB)
 have HSM:Hid (W6.heap[w6.heap.size]? = some (.cells #[.string ⟨#[116,111,112]⟩,.slice z1 1 d1,.slice z2 0 d2,.slice z3 0 d3,.slice z4 3 d4] 27 (0,0))/\MoAt W6 Tt znx (.agg #[.string ⟨#[116,111,112]⟩,.slice z1 1 d1,.slice z2 0 d2,.slice z3 0 d3,.slice z4 3 d4]) z1 d1 z2 d2 z3 d3 z4 d4):=⟨by rw [hW6];exact heap_newP _ _,HM.out.later hB7⟩
 rw [← hW6];clear hW6 hB7 hB HB6 HB2 HM HN
 rename_i K hK
 have TAIL:∀ {W9:World} {b7:Nat} {y1 y2 y3:OA} {yc1 yc2 yc3:Nat} {t7 t8 t9 t10 t11 t12 t13 t14 t15 t16 t17 t18 t19 t20 t21 t22 t23 t24 t25 t26:Value},Below w.heap.size w W9->UnIn W9 w2.heap.size u x1 xc1 x2 xc2 x3 xc3->UnIn W9 b7 t y1 yc1 y2 yc2 y3 yc3->K { tmps:=#[.slice none 0 0,.pointer (some ⟨w2.heap.size,0,none⟩),.int .i64 0,.pointer (some ⟨w6.heap.size,0,none⟩),.int .i64 0,.pointer (some ⟨b7,0,none⟩),.int .i64 0,t7,t8,t9,t10,t11,t12,t13,t14,t15,t16,t17,t18,t19,t20,t21,t22,t23,t24,t25,t26],defers:=[] } W9:=by
  intro W9 b7 y1 y2 y3 yc1 yc2 yc3 t7 t8 t9 t10 t11 t12 t13 t14 t15 t16 t17 t18 t19 t20 t21 t22 t23 t24 t25 t26 hb9 h1 h2;have HB9:=hid hb9;have H1:=hid h1;have H2:=hid h2;obtain ⟨q0,q1,q2,q3,q4⟩:=yar h1.blk;obtain ⟨r0,r1,r2,r3,r4⟩:=yar h2.blk;have qz:=zab h1.blk;have rz:=zab h2.blk;clear hb9 h1 h2 HSB HSU HSM;refine hK _ _ ?_;clear hK;go_wp2_with fail;have hB9:=al1 W9 (.cells #[.string u.name,.slice x1 u.uses.length xc1,.int .i64 u.data,.slice x2 u.parts.length xc2,.slice x3 u.main.length xc3,.string t.name,.slice y1 t.uses.length yc1,.int .i64 t.data,.slice y2 t.parts.length yc2,.slice y3 t.main.length yc3] 42);go_ret;refine ⟨⟨W9.heap.size,0,none⟩,rfl,?_,thenB HB9.out hB9⟩;refine zci (Blk.new W9 _ _) ?_ (by simp [z5m,Un.ds]) (by simp [z5m,Un.ds])
  have e:z5m [u,t]=u.ds++t.ds:=by simp [z5m]
  rw [e];have k1:=z83 xc1 xc2 xc3 HFu.out.1 HFu.out.2 (H1.out.ls.moves (zai.of_below hB9 _));have k2:=z83 yc1 yc2 yc3 HFt.out.1 HFt.out.2 (H2.out.ls.moves (zai.of_below hB9 _));exact k1.append k2
 clear hK;have HMd:=hid (zak HSM.out.1 (bdrew W6));have hb5:=zab HSM.out.1;have HX5:=hid (fun (W:World) (hW:Below W6.heap.size W6 W)=>yar (zak HSM.out.1 hW))
 go_region_held (fun W=>W.cell? ⟨w6.heap.size,0,none⟩=some (.string ⟨#[116,111,112]⟩)/\W.cell? ⟨w6.heap.size,1,none⟩=some (.slice z1 1 d1)/\W.cell? ⟨w6.heap.size,2,none⟩=some (.slice z2 0 d2)/\W.cell? ⟨w6.heap.size,3,none⟩=some (.slice z3 0 d3)/\W.cell? ⟨w6.heap.size,4,none⟩=some (.slice z4 3 d4))
  (first | with_reducible exact HX5.out _ HB8.out | with_reducible exact HX5.out _ (thenB HB8.out (al1 _ _)) | with_reducible exact HX5.out _ (zer HB8.out (by omega) _ _ _ _ _) | with_reducible exact HX5.out _ HB7.out | with_reducible exact HX5.out _ (thenB HB7.out (al1 _ _)) | with_reducible exact HX5.out _ (thenB HB7.out (bl2 _ _ _)) | with_reducible exact HX5.out _ (bdrew _) | with_reducible exact HX5.out _ (za7 _ _) | with_reducible exact HX5.out _ (thenB (bdrew _) (al1 _ _)))
  (first
  | (go_at_call 57;refine (zu2 _).mono ?_;rintro e w7 ⟨ad,cp,rfl,hD,hb7⟩;have HD7:=hid hD;(first | (with_reducible have HB7:=hid (thenB (bdrew W6) hb7)) | (have HZ7:=hid (zak (yas W6 _) hb7);have HB7:=hid (thenB (za7 W6 _) hb7)));have hz7:=HB7.out.size;clear hD hb7)
  | (go_at_call 21;(with_reducible refine (HT.out _ _ _ _ _ _ _ _ _ _ (HSM.out.2.later (thenB HB7.out (al1 _ _))) _ _ (zra HD7.out _)).mono ?_);rintro e w8 ⟨y1,yc1,y2,yc2,y3,yc3,rfl,hC,hb8⟩;have HC8:=hid hC;have HB8:=hid (thenB HB7.out (thenB (al1 _ _) hb8));(first | (with_reducible refine And.elim ?_ (zwt (zak (zak HZ7.out (al1 _ _)) hb8));intro e0 hcs;have HZ8:=hid (zak (zak HZ7.out (al1 _ _)) hb8);obtain ⟨e1,e2,e3,e4,ef,hel⟩:=hcs) | skip);clear hC hb8)
  | (go_at_call 21;(with_reducible refine (HT.out _ _ _ _ _ _ _ _ _ _ (HSM.out.2.later (thenB HB7.out (bl2 _ _ _))) _ _ ((zra HD7.out _).later (al1 _ _))).mono ?_);rintro e w8 ⟨y1,yc1,y2,yc2,y3,yc3,rfl,hC,hb8⟩;have HC8:=hid hC;have HB8:=hid (thenB HB7.out (thenB (bl2 _ _ _) hb8));(refine And.elim ?_ (zwt (zak (z1o w7 _ _) hb8));intro e0 hcs;have HZ8:=hid (zak (z1o w7 _ _) hb8);obtain ⟨e1,e2,e3,e4,ef,hel⟩:=hcs);clear hC hb8)
  | (go_at_call 21;(with_reducible refine (HT.out _ _ _ _ _ _ _ _ _ _ (HSM.out.2.later (thenB HB7.out (bl2 _ _ _))) _ _ (z1n HD7.out _ _)).mono ?_);rintro e w8 ⟨y1,yc1,y2,yc2,y3,yc3,rfl,hC,hb8⟩;have HC8:=hid hC;have HB8:=hid (thenB HB7.out (thenB (bl2 _ _ _) hb8));(refine And.elim ?_ (zwt (zak (zae (heap_newP w7 _)) hb8));intro e0 hcs;have HZ8:=hid (zak (zae (heap_newP w7 _)) hb8);obtain ⟨e1,e2,e3,e4,ef,hel⟩:=hcs);clear hC hb8))
 . show K _ _
   exact TAIL (thenB HSB.out (thenB HB8.out (al1 w8 _))) (HSU.out.later (thenB HB8.out (al1 w8 _))) (HC8.out.new yc1 yc2 yc3 42 rfl)
 . show K _ _
   exact TAIL (thenB HSB.out (zer HB8.out (b:=w7.heap.size+1) (by omega) _ _ _ _ _)) (HSU.out.later (zer HB8.out (b:=w7.heap.size+1) (by omega) _ _ _ _ _)) (HC8.out.set yc1 yc2 yc3 HZ8.out (by simp<;>omega))
 . show K _ _
   exact TAIL (thenB HSB.out (zer HB8.out (b:=w7.heap.size) (by omega) _ _ _ _ _)) (HSU.out.later (zer HB8.out (b:=w7.heap.size) (by omega) _ _ _ _ _)) (HC8.out.set yc1 yc2 yc3 HZ8.out (by simp<;>omega))
 . show K _ _
   exact TAIL (thenB HSB.out (zer HB8.out (b:=W6.heap.size) (by omega) _ _ _ _ _)) (HSU.out.later (zer HB8.out (b:=W6.heap.size) (by omega) _ _ _ _ _)) (HC8.out.set yc1 yc2 yc3 HZ8.out (by simp<;>omega))
theorem z4r:D.fines zu0.ds:=zlk _ (by kernel_rfl)
theorem z4s:D.fines zu1.ds:=zlk _ (by kernel_rfl)
theorem z1p {n k:Nat} (h:n=k) (hk:k<=maxLen):n<=maxLen:=h ▸ hk
theorem zu4 (w:World) :
 Calls Tryz.prog 75 #[] w fun e w'=>∃ a,e = .returned (.slice (some a) 2 2)/\DAt w' Tt (some a) 2 (z5m [zu0,zu1])/\Below w.heap.size w w':=
 zu3 zu0 zu1 z7c z7d z4r z4s (z1p (k:=3) (by kernel_rfl) (by decide)) (z1p (k:=3) (by kernel_rfl) (by decide)) w
def zu5:Ob:=zqh zu0
theorem z7f:zxl zu0 = .ok zu5:=by kernel_rfl
structure Cob (w:World) (b3 o3 b4 o4 b5 o5:Nat):Prop where
 l3:b3<w.heap.size
 c0:w.cell? ⟨b3,o3+12,none⟩=some (.int .i64 12)
 c1:w.cell? ⟨b3,o3+13,none⟩=some (.int .i64 15)
 c2:w.cell? ⟨b3,o3+14,none⟩=some (.int .i64 0)
 c3:w.cell? ⟨b3,o3+15,none⟩=some (.int .i64 16)
 l4:b4<w.heap.size
 f0:w.cell? ⟨b4,o4,none⟩=some (.int .i64 4)
 f1:w.cell? ⟨b4,o4+1,none⟩=some (.int .i64 1)
 f2:w.cell? ⟨b4,o4+2,none⟩=some (.int .i64 0)
 f3:w.cell? ⟨b4,o4+3,none⟩=some (.int .i64 6)
 f4:w.cell? ⟨b4,o4+4,none⟩=some (.int .i64 3)
 f5:w.cell? ⟨b4,o4+5,none⟩=some (.int .i64 0)
 en:DAt w Tt (some ⟨b5,o5,none⟩) 1 (zk8 [0])
theorem Cob.later {w w':World} {b3 o3 b4 o4 b5 o5:Nat} (h:Cob w b3 o3 b4 o4 b5 o5) (hb:Below w.heap.size w w'):Cob w' b3 o3 b4 o4 b5 o5:=
 have k3:∀ j,w'.cell? ⟨b3,j,none⟩=w.cell? ⟨b3,j,none⟩:=fun j=>hb.cell (p:=⟨b3,j,none⟩) h.l3
 have k4:∀ j,w'.cell? ⟨b4,j,none⟩=w.cell? ⟨b4,j,none⟩:=fun j=>hb.cell (p:=⟨b4,j,none⟩) h.l4
 ⟨vah h.l3 hb.size,(k3 _).trans h.c0,(k3 _).trans h.c1,(k3 _).trans h.c2,(k3 _).trans h.c3,vah h.l4 hb.size,(k4 _).trans h.f0,(k4 _).trans h.f1,(k4 _).trans h.f2,(k4 _).trans h.f3,(k4 _).trans h.f4,(k4 _).trans h.f5,h.en.later hb⟩
theorem Tryz.infoI:(Tryz.prog.info? 3).map (fun i=>(i.zero,i.size,i.bytes))=some (some (.int .i64 0),1,8):=by kernel_rfl
theorem zdw {B:Nat} {a w:World} (h:Below B a w) (m:Nat):Below B a (w.drewN m):=⟨h.os,h.tape,h.output,h.size,h.block⟩
end Go.Proofs.YtndkhgakfodldaaGreatDoor

namespace Go.Proofs.YtndkhgakfodldaaGreatDoor
set_option maxRecDepth 100000
set_option maxHeartbeats 1600000
open Go.RowKit Go.Shelf
set_option linter.unusedSimpArgs false
set_option linter.unusedVariables false
def zcc {α:Type} (p:L8->Option (α × L8)):Nat->L8->Option (List α × L8)
 | 0,l=>some ([],l)
 | n+1,l=>(p l).bind fun a=>(zcc p n a.2).map fun b=>(a.1 :: b.1,b.2)
def zn2 {α:Type} (p:L8->Option (α × L8)) (acc:List α) (n:Nat) (l:L8):Option (List α × L8):=(zcc p n l).map fun b=>(acc++b.1,b.2)
section
variable {α:Type} {p:L8->Option (α × L8)} {acc:List α} {n:Nat} {l r:L8} {i:α}
theorem zjn (h:p l=none):zn2 p acc (n+1) l=none:=by simp [zn2,zcc,h]
theorem zjo (h:p l=some (i,r)):zn2 p acc (n+1) l=zn2 p (acc++[i]) n r:=by
 simp [zn2,zcc,h]
 rfl
theorem zjp:zn2 p acc 0 l=some (acc,l):=by simp [zn2,zcc]
theorem zll:zn2 p [] n l=zcc p n l:=by
 unfold zn2
 cases zcc p n l<;>simp
end
def zd6 {α:Type} (p:L8->Option (α × L8)) (l:L8):Option (List α × L8):=(zpd l).bind fun q=>zcc p q.1 q.2
theorem zlm {B rb:Nat} {w w':World} {l:L8} (h:Fx.Rdr w rb l) (hb:Below B w w') (hr:rb<B):Fx.Rdr w' rb l:=
 ⟨vah h.lt hb.size,(vet (a:=⟨rb,0,none⟩) (hb.block rb hr)).trans h.c0,(vev (a:=⟨rb,0,none⟩) (hb.block rb hr)).trans h.f0⟩
theorem zht {w w1 w2:World} {r:Option Nat} (h:w.grownBy w1 r) (hb:Below w.heap.size w1 w2):w.grownBy w2 r:=
 ⟨hb.os.trans h.os,hb.tape.trans h.tape,hb.output.trans h.output,vai h.size hb.size,fun k hk hne=>(hb.block k hk).trans (h.block k hk hne)⟩
theorem zbc {W W':World} {B:Nat} {e:TypeId} {size:Nat} {v:Value} {n:Nat} {xs:List Value} {rb:Nat} (h:W.ownsRow B e size v n xs) (hg:W.grownBy W' (some rb)) (hr:rb<B):W'.ownsRow B e size v n xs:=
 zbd h (fun k hk=>hg.block k (h.lt k hk).2 (fun e=>by have:=(h.lt k hk).1;cases e;omega))
theorem zjq {l r:L8} {n:Nat} (h:zpd l=some (n,r)):r.length+8=l.length/\n<=9223372036854775807:=by
 unfold zpd at h
 cases hq:Fx.pNum l with
 | none=>rw [hq] at h;cases h
 | some q=>
   rw [hq] at h;simp only [vaw] at h
   split at h
   . cases h
   . cases h
     have:=zww (n:=q.1) (r:=q.2) hq;exact ⟨zfa (n:=q.1) (r:=q.2) hq,by omega⟩
theorem zph {l r:L8} {x:Gi} (h:zbn l=some (x,r)):r.length+1<=l.length:=by
 unfold zbn at h
 cases h1:Fx.zdm l with
 | none=>rw [h1] at h;cases h
 | some a=>
   rw [h1] at h
   cases h2:Fx.pNum a.2 with
   | none=>simp [h2] at h
   | some b=>
     cases h3:Fx.pNum b.2 with
     | none=>simp [h2,h3] at h
     | some c=>
       simp [h2,h3] at h;have y1:=zjk (n:=a.1) (r:=a.2) h1;have y2:=zfa (n:=b.1) (r:=b.2) h2;have y3:=zfa (n:=c.1) (r:=c.2) h3;rw [← h.2];omega
theorem zw0 {l r:L8} {x:Gf} (h:zcl l=some (x,r)):r.length+1<=l.length:=by
 unfold zcl at h
 cases h1:Fx.pNum l with
 | none=>rw [h1] at h;cases h
 | some a=>
   rw [h1] at h
   cases h2:Fx.zdm a.2 with
   | none=>simp [h2] at h
   | some b=>
     cases h3:Fx.pNum b.2 with
     | none=>simp [h2,h3] at h
     | some c=>
       simp [h2,h3] at h;have y1:=zfa (n:=a.1) (r:=a.2) h1;have y2:=zjk (n:=b.1) (r:=b.2) h2;have y3:=zfa (n:=c.1) (r:=c.2) h3;rw [← h.2];omega
theorem z1q (x:ByteArray):∀ u ∈ (#[Value.string x]:Array Value).toList,u.oneCell'=true:=by simp;rfl
theorem z1r (x:Int):∀ u ∈ (#[Value.int .i64 x]:Array Value).toList,u.oneCell'=true:=by simp;rfl
theorem zpi (l:List ByteArray) (x:ByteArray):strV (l++[x])=strV l++[.string x]:=by simp [strV]
def zu6 (B:Nat) (W:World) (xs:List ByteArray) (v:Value):Prop:=W.ownsRow B 9 1 v xs.length (strV xs)
theorem z4t (rb n:Nat) (l:L8) (w:World) (h:Fx.Rdr w rb l) (hl:l.length<=1000000) (hn:n<=9223372036854775807) :
 Calls Tryz.prog 175 #[.pointer (some ⟨rb,0,none⟩),.int .i64 n,.func (.func 137) #[] #[]] w fun e w'=>Rdd rb w (zcc pTx n l) (zu6 w.heap.size) e w':=by
 have HR:=hid h;have hlt:=h.lt
 obtain ⟨R,hR⟩:∃ R,zcc pTx n l=R:=⟨_,rfl⟩
 have HE:Hid (zn2 pTx [] n l=R):=zll.trans hR;rw [hR];clear h hR;go_enter Tryz.func175,Tryz.ntmps175;go_wp2_with fail
 go_loopw [7,9] (fun u i wr=>∃ (k:Nat) (acc:List ByteArray) (t:L8),k<=n/\i = .int .i64 k/\acc.length=k/\acc.length+t.length<=l.length/\zn2 pTx acc (n - k) t=R/\wr.ownsRow w.heap.size 9 1 u acc.length (strV acc)/\Fx.Rdr wr rb t/\w.grownBy wr (some rb)) (fun _ i _=>n - (intOf i).toNat)
 case atStart=>exact ⟨0,[],l,vae _,rfl,rfl,by simp,HE.out,ves _ _ _ _,HR.out,Fx.zcf _ _⟩
 case round=>
  obtain ⟨k,acc,t,hk,rfl,ha,ht,hacc,hrow,hrd,hg⟩:=hrel;have HRow:=hid hrow;have HG:=hid hg;have HAcc:=hid hacc;have hsz:=hg.size;have HC:=hid (z5o rb t wr hrd (by omega));have HRd:=hid hrd
  by_cases hkn:k<n
  . have HA:=hid ha
    have HT:=hid ht;clear hrow hrd hg hacc ha;go_wp2_with fail;refine HC.out.mono ?_;rintro e w1 ⟨hg,⟨hp,c,hc,rfl⟩ | ⟨x,r,v,hp,rfl,hv,hr⟩⟩
    . exact ⟨rfl,Fx.zaf HG.out hg,Or.inl ⟨by rw [← HAcc.out,show n - k=(n - (k+1))+1 by omega];exact zjn hp,c,hc,rfl⟩⟩
    obtain rfl:v = .string x:=hv
    have HN:Hid (zn2 pTx (acc++[x]) (n - (k+1)) r=R):=by
     rw [← HAcc.out,show n - k=(n - (k+1))+1 by omega];exact (zjo hp).symm
    have HL:=hid (z1h hp);have HG1:=hid (Fx.zaf HG.out hg);have HR1:=hid hr;have HRow1:=hid (zbc HRow.out hg (by omega));have hs1:=HG1.out.size;clear hg hr hp HRow HG HAcc HC HRd
    go_wp2_with (at_builtin;(refine zfd rfl (.tmp 11) (.tmp 15) 22 rfl w.heap.size 9 _ 1 16 Tryz.underlying22 Tryz.infoP9 rfl (by decide) w1 u7 acc.length (strV acc) rfl HRow1.out #[.string x] _ rfl rfl rfl (z1q x) (by omega) (by decide) (by omega) ?_);intro g2 c2 w2 ho2 hb2 hz2 hkp2 hkb2;have HO2:=hid ho2;have HB2:=hid hb2;clear ho2 hb2 hz2 hkp2 hkb2)
    go_roundw
    case rel=>
     refine ⟨k+1,acc++[x],r,by omega,by go_num,by rw [vab,HA.out];rfl,?_,HN.out,?_,zlm HR1.out HB2.out hlt,zht HG1.out HB2.out⟩
     . have h1:=HL.out
       have h2:=HT.out;rw [vab,vbc];omega
     . have:=HO2.out
       rw [vab,vbc,zpi];exact this
    case measure=>simp [intOf];omega
  . obtain rfl:k=n:=by omega
    clear hrow hrd hg hacc;go_wp2_with fail
    go_returns
    have h0:=HAcc.out;rw [vel,zjp] at h0;exact ⟨HG.out,Or.inr ⟨acc,t,_,h0.symm,rfl,HRow.out,HRd.out⟩⟩
theorem z7g (rb:Nat) (l:L8) (w:World) (h:Fx.Rdr w rb l) (hl:l.length<=1000000) :
 Calls Tryz.prog 138 #[.pointer (some ⟨rb,0,none⟩),.func (.func 137) #[] #[]] w fun e w'=>Rdd rb w (zd6 pTx l) (zu6 w.heap.size) e w':=by
 have HC:=hid (zq6 rb l w h hl);have HP:Hid (zd6 pTx l=(zpd l).bind fun q=>zcc pTx q.1 q.2):=rfl;have hlt:=h.lt;clear h;go_enter Tryz.func138,Tryz.ntmps138;go_wp2_with fail;refine HC.out.mono ?_;rintro e w1 ⟨hg,⟨hp,c,hc,rfl⟩ | ⟨n,r,v,hp,rfl,hv,hr⟩⟩
 . exact ⟨rfl,hg,Or.inl ⟨by rw [HP.out,hp];rfl,c,hc,rfl⟩⟩
 obtain rfl:v = .int .i64 n:=hv
 have HP1:Hid (zd6 pTx l=zcc pTx n r):=by show _=_;rw [HP.out,hp];rfl
 obtain ⟨h1,h2⟩:=zjq hp;have HG:=hid hg;have HN:=hid (z4t rb n r w1 hr (by omega) h2);clear hg hr hp HP HC;go_wp2_with fail;refine HN.out.mono ?_;rintro e w2 ⟨hg,⟨hp,c,hc,rfl⟩ | ⟨x,r2,v,hp,rfl,hv,hr⟩⟩
 . exact ⟨rfl,Fx.zaf HG.out hg,Or.inl ⟨by rw [HP1.out,hp],c,hc,rfl⟩⟩
 have HE:Hid (Rdd rb w (zd6 pTx l) (zu6 w.heap.size) (.returned v) w2):=⟨Fx.zaf HG.out hg,Or.inr ⟨x,r2,v,by rw [HP1.out,hp],rfl,zcp hv HG.out.size,hr⟩⟩
 clear hg hv hr hp;go_wp2_with fail
 go_returns
 exact HE.out
def z1s (B:Nat) (W:World) (xs:List Int) (v:Value):Prop:=W.ownsRow B 3 1 v xs.length (intV xs)
theorem z7h (rb n:Nat) (l:L8) (w:World) (h:Fx.Rdr w rb l) (hl:l.length<=1000000) (hn:n<=9223372036854775807) :
 Calls Tryz.prog 179 #[.pointer (some ⟨rb,0,none⟩),.int .i64 n,.func (.func 139) #[] #[]] w fun e w'=>Rdd rb w (zcc Fx.pNum n l) (z1s w.heap.size) e w':=by
 have HR:=hid h;have hlt:=h.lt
 obtain ⟨R,hR⟩:∃ R,zcc Fx.pNum n l=R:=⟨_,rfl⟩
 have HE:Hid (zn2 Fx.pNum [] n l=R):=zll.trans hR;rw [hR];clear h hR;go_enter Tryz.func179,Tryz.ntmps179;go_wp2_with fail
 go_loopw [7,9] (fun u i wr=>∃ (k:Nat) (acc:List Int) (t:L8),k<=n/\i = .int .i64 k/\acc.length=k/\acc.length+t.length<=l.length/\zn2 Fx.pNum acc (n - k) t=R/\wr.ownsRow w.heap.size 3 1 u acc.length (intV acc)/\Fx.Rdr wr rb t/\w.grownBy wr (some rb)) (fun _ i _=>n - (intOf i).toNat)
 case atStart=>exact ⟨0,[],l,vae _,rfl,rfl,by simp,HE.out,ves _ _ _ _,HR.out,Fx.zcf _ _⟩
 case round=>
  obtain ⟨k,acc,t,hk,rfl,ha,ht,hacc,hrow,hrd,hg⟩:=hrel;have HRow:=hid hrow;have HG:=hid hg;have HAcc:=hid hacc;have hsz:=hg.size;have HC:=hid (zs5 rb t wr hrd (by omega));have HRd:=hid hrd
  by_cases hkn:k<n
  . have HA:=hid ha
    have HT:=hid ht;clear hrow hrd hg hacc ha;go_wp2_with fail;refine HC.out.mono ?_;rintro e w1 ⟨hg,⟨hp,c,hc,rfl⟩ | ⟨x,r,v,hp,rfl,hv,hr⟩⟩
    . exact ⟨rfl,Fx.zaf HG.out hg,Or.inl ⟨by rw [← HAcc.out,show n - k=(n - (k+1))+1 by omega];exact zjn hp,c,hc,rfl⟩⟩
    obtain rfl:v = .int .i64 x:=hv
    have HN:Hid (zn2 Fx.pNum (acc++[x]) (n - (k+1)) r=R):=by
     rw [← HAcc.out,show n - k=(n - (k+1))+1 by omega];exact (zjo hp).symm
    have HL:=hid (zfa hp);have HG1:=hid (Fx.zaf HG.out hg);have HR1:=hid hr;have HRow1:=hid (zbc HRow.out hg (by omega));have hs1:=HG1.out.size;clear hg hr hp HRow HG HAcc HC HRd
    go_wp2_with (at_builtin;(refine zfd rfl (.tmp 11) (.tmp 15) 49 rfl w.heap.size 3 _ 1 8 Tryz.underlying49 Tryz.infoI rfl (by decide) w1 u7 acc.length (intV acc) rfl HRow1.out #[.int .i64 x] _ rfl rfl rfl (z1r x) (by omega) (by decide) (by omega) ?_);intro g2 c2 w2 ho2 hb2 hz2 hkp2 hkb2;have HO2:=hid ho2;have HB2:=hid hb2;clear ho2 hb2 hz2 hkp2 hkb2)
    go_roundw
    case rel=>
     refine ⟨k+1,acc++[x],r,by omega,by go_num,by rw [vab,HA.out];rfl,?_,HN.out,?_,zlm HR1.out HB2.out hlt,zht HG1.out HB2.out⟩
     . have h1:=HL.out
       have h2:=HT.out;rw [vab,vbc];omega
     . have:=HO2.out
       rw [vab,vbc,zmc];exact this
    case measure=>simp [intOf];omega
  . obtain rfl:k=n:=by omega
    clear hrow hrd hg hacc;go_wp2_with fail
    go_returns
    have h0:=HAcc.out;rw [vel,zjp] at h0;exact ⟨HG.out,Or.inr ⟨acc,t,_,h0.symm,rfl,HRow.out,HRd.out⟩⟩
theorem z84 (rb:Nat) (l:L8) (w:World) (h:Fx.Rdr w rb l) (hl:l.length<=1000000) :
 Calls Tryz.prog 145 #[.pointer (some ⟨rb,0,none⟩),.func (.func 139) #[] #[]] w fun e w'=>Rdd rb w (zd6 Fx.pNum l) (z1s w.heap.size) e w':=by
 have HC:=hid (zq6 rb l w h hl);have HP:Hid (zd6 Fx.pNum l=(zpd l).bind fun q=>zcc Fx.pNum q.1 q.2):=rfl;have hlt:=h.lt;clear h;go_enter Tryz.func145,Tryz.ntmps145;go_wp2_with fail;refine HC.out.mono ?_;rintro e w1 ⟨hg,⟨hp,c,hc,rfl⟩ | ⟨n,r,v,hp,rfl,hv,hr⟩⟩
 . exact ⟨rfl,hg,Or.inl ⟨by rw [HP.out,hp];rfl,c,hc,rfl⟩⟩
 obtain rfl:v = .int .i64 n:=hv
 have HP1:Hid (zd6 Fx.pNum l=zcc Fx.pNum n r):=by show _=_;rw [HP.out,hp];rfl
 obtain ⟨h1,h2⟩:=zjq hp;have HG:=hid hg;have HN:=hid (z7h rb n r w1 hr (by omega) h2);clear hg hr hp HP HC;go_wp2_with fail;refine HN.out.mono ?_;rintro e w2 ⟨hg,⟨hp,c,hc,rfl⟩ | ⟨x,r2,v,hp,rfl,hv,hr⟩⟩
 . exact ⟨rfl,Fx.zaf HG.out hg,Or.inl ⟨by rw [HP1.out,hp],c,hc,rfl⟩⟩
 have HE:Hid (Rdd rb w (zd6 Fx.pNum l) (z1s w.heap.size) (.returned v) w2):=⟨Fx.zaf HG.out hg,Or.inr ⟨x,r2,v,by rw [HP1.out,hp],rfl,zcp hv HG.out.size,hr⟩⟩
 clear hg hv hr hp;go_wp2_with fail
 go_returns
 exact HE.out
def zrb (B:Nat) (W:World) (xs:List Gi) (v:Value):Prop:=W.ownsRow B 69 3 v xs.length (zln xs)
theorem z1t (rb n:Nat) (l:L8) (w:World) (h:Fx.Rdr w rb l) (hl:l.length<=1000000) (hn:n<=9223372036854775807) :
 Calls Tryz.prog 177 #[.pointer (some ⟨rb,0,none⟩),.int .i64 n,.func (.func 141) #[] #[]] w fun e w'=>Rdd rb w (zcc zbn n l) (zrb w.heap.size) e w':=by
 have HR:=hid h;have hlt:=h.lt
 obtain ⟨R,hR⟩:∃ R,zcc zbn n l=R:=⟨_,rfl⟩
 have HE:Hid (zn2 zbn [] n l=R):=zll.trans hR;rw [hR];clear h hR;go_enter Tryz.func177,Tryz.ntmps177;go_wp2_with fail
 go_loopw [7,9] (fun u i wr=>∃ (k:Nat) (acc:List Gi) (t:L8),k<=n/\i = .int .i64 k/\acc.length=k/\acc.length+t.length<=l.length/\zn2 zbn acc (n - k) t=R/\wr.ownsRow w.heap.size 69 3 u acc.length (zln acc)/\Fx.Rdr wr rb t/\w.grownBy wr (some rb)) (fun _ i _=>n - (intOf i).toNat)
 case atStart=>exact ⟨0,[],l,vae _,rfl,rfl,by simp,HE.out,ves _ _ _ _,HR.out,Fx.zcf _ _⟩
 case round=>
  obtain ⟨k,acc,t,hk,rfl,ha,ht,hacc,hrow,hrd,hg⟩:=hrel;have HRow:=hid hrow;have HG:=hid hg;have HAcc:=hid hacc;have hsz:=hg.size;have HC:=hid (z68 rb t wr hrd (by omega));have HRd:=hid hrd
  by_cases hkn:k<n
  . have HA:=hid ha
    have HT:=hid ht;clear hrow hrd hg hacc ha;go_wp2_with fail;refine HC.out.mono ?_;rintro e w1 ⟨hg,⟨hp,c,hc,rfl⟩ | ⟨x,r,v,hp,rfl,hv,hr⟩⟩
    . exact ⟨rfl,Fx.zaf HG.out hg,Or.inl ⟨by rw [← HAcc.out,show n - k=(n - (k+1))+1 by omega];exact zjn hp,c,hc,rfl⟩⟩
    obtain rfl:v = .agg #[.int .i64 x.op,.int .i64 x.a,.int .i64 x.b]:=hv
    have HN:Hid (zn2 zbn (acc++[x]) (n - (k+1)) r=R):=by
     rw [← HAcc.out,show n - k=(n - (k+1))+1 by omega];exact (zjo hp).symm
    have HL:=hid (zph hp);have HG1:=hid (Fx.zaf HG.out hg);have HR1:=hid hr;have HRow1:=hid (zbc HRow.out hg (by omega));have hs1:=HG1.out.size;clear hg hr hp HRow HG HAcc HC HRd
    go_wp2_with (at_builtin;(refine zfd rfl (.tmp 11) (.tmp 15) 59 rfl w.heap.size 69 _ 3 24 Tryz.underlying59 Tryz.infoInstr rfl (by decide) w1 u7 acc.length (zln acc) rfl HRow1.out #[.int .i64 x.op,.int .i64 x.a,.int .i64 x.b] _ rfl rfl rfl (zw4 x) (by omega) (by decide) (by omega) ?_);intro g2 c2 w2 ho2 hb2 hz2 hkp2 hkb2;have HO2:=hid ho2;have HB2:=hid hb2;clear ho2 hb2 hz2 hkp2 hkb2)
    go_roundw
    case rel=>
     refine ⟨k+1,acc++[x],r,by omega,by go_num,by rw [vab,HA.out];rfl,?_,HN.out,?_,zlm HR1.out HB2.out hlt,zht HG1.out HB2.out⟩
     . have h1:=HL.out
       have h2:=HT.out;rw [vab,vbc];omega
     . have:=HO2.out
       rw [vab,vbc,znc];exact this
    case measure=>simp [intOf];omega
  . obtain rfl:k=n:=by omega
    clear hrow hrd hg hacc;go_wp2_with fail
    go_returns
    have h0:=HAcc.out;rw [vel,zjp] at h0;exact ⟨HG.out,Or.inr ⟨acc,t,_,h0.symm,rfl,HRow.out,HRd.out⟩⟩
theorem z4u (rb:Nat) (l:L8) (w:World) (h:Fx.Rdr w rb l) (hl:l.length<=1000000) :
 Calls Tryz.prog 140 #[.pointer (some ⟨rb,0,none⟩),.func (.func 141) #[] #[]] w fun e w'=>Rdd rb w (zd6 zbn l) (zrb w.heap.size) e w':=by
 have HC:=hid (zq6 rb l w h hl);have HP:Hid (zd6 zbn l=(zpd l).bind fun q=>zcc zbn q.1 q.2):=rfl;have hlt:=h.lt;clear h;go_enter Tryz.func140,Tryz.ntmps140;go_wp2_with fail;refine HC.out.mono ?_;rintro e w1 ⟨hg,⟨hp,c,hc,rfl⟩ | ⟨n,r,v,hp,rfl,hv,hr⟩⟩
 . exact ⟨rfl,hg,Or.inl ⟨by rw [HP.out,hp];rfl,c,hc,rfl⟩⟩
 obtain rfl:v = .int .i64 n:=hv
 have HP1:Hid (zd6 zbn l=zcc zbn n r):=by show _=_;rw [HP.out,hp];rfl
 obtain ⟨h1,h2⟩:=zjq hp;have HG:=hid hg;have HN:=hid (z1t rb n r w1 hr (by omega) h2);clear hg hr hp HP HC;go_wp2_with fail;refine HN.out.mono ?_;rintro e w2 ⟨hg,⟨hp,c,hc,rfl⟩ | ⟨x,r2,v,hp,rfl,hv,hr⟩⟩
 . exact ⟨rfl,Fx.zaf HG.out hg,Or.inl ⟨by rw [HP1.out,hp],c,hc,rfl⟩⟩
 have HE:Hid (Rdd rb w (zd6 zbn l) (zrb w.heap.size) (.returned v) w2):=⟨Fx.zaf HG.out hg,Or.inr ⟨x,r2,v,by rw [HP1.out,hp],rfl,zcp hv HG.out.size,hr⟩⟩
 clear hg hv hr hp;go_wp2_with fail
 go_returns
 exact HE.out
def zu7 (B:Nat) (W:World) (xs:List Gf) (v:Value):Prop:=W.ownsRow B 67 3 v xs.length (ztc xs)
theorem z4v (rb n:Nat) (l:L8) (w:World) (h:Fx.Rdr w rb l) (hl:l.length<=1000000) (hn:n<=9223372036854775807) :
 Calls Tryz.prog 178 #[.pointer (some ⟨rb,0,none⟩),.int .i64 n,.func (.func 144) #[] #[]] w fun e w'=>Rdd rb w (zcc zcl n l) (zu7 w.heap.size) e w':=by
 have HR:=hid h;have hlt:=h.lt
 obtain ⟨R,hR⟩:∃ R,zcc zcl n l=R:=⟨_,rfl⟩
 have HE:Hid (zn2 zcl [] n l=R):=zll.trans hR;rw [hR];clear h hR;go_enter Tryz.func178,Tryz.ntmps178;go_wp2_with fail
 go_loopw [7,9] (fun u i wr=>∃ (k:Nat) (acc:List Gf) (t:L8),k<=n/\i = .int .i64 k/\acc.length=k/\acc.length+t.length<=l.length/\zn2 zcl acc (n - k) t=R/\wr.ownsRow w.heap.size 67 3 u acc.length (ztc acc)/\Fx.Rdr wr rb t/\w.grownBy wr (some rb)) (fun _ i _=>n - (intOf i).toNat)
 case atStart=>exact ⟨0,[],l,vae _,rfl,rfl,by simp,HE.out,ves _ _ _ _,HR.out,Fx.zcf _ _⟩
 case round=>
  obtain ⟨k,acc,t,hk,rfl,ha,ht,hacc,hrow,hrd,hg⟩:=hrel;have HRow:=hid hrow;have HG:=hid hg;have HAcc:=hid hacc;have hsz:=hg.size;have HC:=hid (yaq rb t wr hrd (by omega));have HRd:=hid hrd
  by_cases hkn:k<n
  . have HA:=hid ha
    have HT:=hid ht;clear hrow hrd hg hacc ha;go_wp2_with fail;refine HC.out.mono ?_;rintro e w1 ⟨hg,⟨hp,c,hc,rfl⟩ | ⟨x,r,v,hp,rfl,hv,hr⟩⟩
    . exact ⟨rfl,Fx.zaf HG.out hg,Or.inl ⟨by rw [← HAcc.out,show n - k=(n - (k+1))+1 by omega];exact zjn hp,c,hc,rfl⟩⟩
    obtain rfl:v = .agg #[.int .i64 x.at_,.int .i64 x.kind,.int .i64 x.m]:=hv
    have HN:Hid (zn2 zcl (acc++[x]) (n - (k+1)) r=R):=by
     rw [← HAcc.out,show n - k=(n - (k+1))+1 by omega];exact (zjo hp).symm
    have HL:=hid (zw0 hp);have HG1:=hid (Fx.zaf HG.out hg);have HR1:=hid hr;have HRow1:=hid (zbc HRow.out hg (by omega));have hs1:=HG1.out.size;clear hg hr hp HRow HG HAcc HC HRd
    go_wp2_with (at_builtin;(refine zfd rfl (.tmp 11) (.tmp 15) 60 rfl w.heap.size 67 _ 3 24 Tryz.underlying60 Tryz.infoFix rfl (by decide) w1 u7 acc.length (ztc acc) rfl HRow1.out #[.int .i64 x.at_,.int .i64 x.kind,.int .i64 x.m] _ rfl rfl rfl (z2b x) (by omega) (by decide) (by omega) ?_);intro g2 c2 w2 ho2 hb2 hz2 hkp2 hkb2;have HO2:=hid ho2;have HB2:=hid hb2;clear ho2 hb2 hz2 hkp2 hkb2)
    go_roundw
    case rel=>
     refine ⟨k+1,acc++[x],r,by omega,by go_num,by rw [vab,HA.out];rfl,?_,HN.out,?_,zlm HR1.out HB2.out hlt,zht HG1.out HB2.out⟩
     . have h1:=HL.out
       have h2:=HT.out;rw [vab,vbc];omega
     . have:=HO2.out
       rw [vab,vbc,znd];exact this
    case measure=>simp [intOf];omega
  . obtain rfl:k=n:=by omega
    clear hrow hrd hg hacc;go_wp2_with fail
    go_returns
    have h0:=HAcc.out;rw [vel,zjp] at h0;exact ⟨HG.out,Or.inr ⟨acc,t,_,h0.symm,rfl,HRow.out,HRd.out⟩⟩
theorem z7i (rb:Nat) (l:L8) (w:World) (h:Fx.Rdr w rb l) (hl:l.length<=1000000) :
 Calls Tryz.prog 143 #[.pointer (some ⟨rb,0,none⟩),.func (.func 144) #[] #[]] w fun e w'=>Rdd rb w (zd6 zcl l) (zu7 w.heap.size) e w':=by
 have HC:=hid (zq6 rb l w h hl);have HP:Hid (zd6 zcl l=(zpd l).bind fun q=>zcc zcl q.1 q.2):=rfl;have hlt:=h.lt;clear h;go_enter Tryz.func143,Tryz.ntmps143;go_wp2_with fail;refine HC.out.mono ?_;rintro e w1 ⟨hg,⟨hp,c,hc,rfl⟩ | ⟨n,r,v,hp,rfl,hv,hr⟩⟩
 . exact ⟨rfl,hg,Or.inl ⟨by rw [HP.out,hp];rfl,c,hc,rfl⟩⟩
 obtain rfl:v = .int .i64 n:=hv
 have HP1:Hid (zd6 zcl l=zcc zcl n r):=by show _=_;rw [HP.out,hp];rfl
 obtain ⟨h1,h2⟩:=zjq hp;have HG:=hid hg;have HN:=hid (z4v rb n r w1 hr (by omega) h2);clear hg hr hp HP HC;go_wp2_with fail;refine HN.out.mono ?_;rintro e w2 ⟨hg,⟨hp,c,hc,rfl⟩ | ⟨x,r2,v,hp,rfl,hv,hr⟩⟩
 . exact ⟨rfl,Fx.zaf HG.out hg,Or.inl ⟨by rw [HP1.out,hp],c,hc,rfl⟩⟩
 have HE:Hid (Rdd rb w (zd6 zcl l) (zu7 w.heap.size) (.returned v) w2):=⟨Fx.zaf HG.out hg,Or.inr ⟨x,r2,v,by rw [HP1.out,hp],rfl,zcp hv HG.out.size,hr⟩⟩
 clear hg hv hr hp;go_wp2_with fail
 go_returns
 exact HE.out
end Go.Proofs.YtndkhgakfodldaaGreatDoor

namespace Go.Proofs.YtndkhgakfodldaaGreatDoor
set_option maxRecDepth 100000
open Go.RowKit Go.Maps Go.WideMaps
set_option linter.unusedSimpArgs false
set_option linter.unusedVariables false
theorem z1u:∀ l:List (L8),Fx.zgu l=false↔l.Nodup:=by
 apply Fx.zgn
 . exact ⟨fun _=>.nil,fun _=>rfl⟩
 . intro l s ih
   rw [Fx.zld,vay,ih,decide_eq_false_iff_not,List.nodup_append]
   constructor
   . rintro ⟨h1,h2⟩
     refine ⟨h1,by simp,fun a ha b hb e=>?_⟩;rw [vcd.1 hb] at e;exact h2 (e ▸ ha)
   . rintro ⟨h1,_,h2⟩
     exact ⟨h1,fun hs=>h2 s hs s (by simp) rfl⟩
set_option maxHeartbeats 6400000
def z9f (l:List Ob):List D:=l.flatMap Ob.ds
structure ObAt (w:World) (b off:Nat) (o:Ob) (x1:OA) (y1:Nat) (x3:OA) (y3:Nat) (x4:OA) (y4:Nat) (x5:OA) (y5:Nat):Prop where
 lt:b<w.heap.size
 c0:w.cell? ⟨b,off,none⟩=some (.string o.name)
 c1:w.cell? ⟨b,off+1,none⟩=some (.slice x1 o.uses.length y1)
 c2:w.cell? ⟨b,off+2,none⟩=some (.int .i64 o.data)
 c3:w.cell? ⟨b,off+3,none⟩=some (.slice x3 o.code.length y3)
 c4:w.cell? ⟨b,off+4,none⟩=some (.slice x4 o.fixes.length y4)
 c5:w.cell? ⟨b,off+5,none⟩=some (.slice x5 o.entries.length y5)
 c6:w.cell? ⟨b,off+6,none⟩=some (.int .i64 o.main)
 ov:OvAt w o x1 x3 x4 x5
theorem DAt.ob {w:World} {a:OA} {l:List Ob} (h:DAt w Tt a l.length (z9f l)) (i:Nat) (hi:i<l.length):∃ b off x1 y1 x3 y3 x4 y4 x5 y5,a=some ⟨b,off,none⟩/\ObAt w b (off+i*7) l[i] x1 y1 x3 y3 x4 y4 x5 y5:=by
 obtain ⟨b,off,ha,hb,hc⟩:=h.cell (by omega);generalize hx:l[i]=x;obtain ⟨name,uses,data,code,fixes,entries,main⟩:=x
 have g:∀ j d,j<7->(Ob.mk name uses data code fixes entries main).ds[j]? = some d->∃ v,w.cell? ⟨b,off+i*7+j,none⟩=some v/\zd0 w Tt d v:=fun j d hj hd=>by
  rw [vbt];exact hc (i*7+j) d ((zc3 Ob.ds 7 (fun _=>rfl) l i hi j hj).trans (by rw [hx];exact hd))
 obtain ⟨v0,q0,d0⟩:=g 0 (.str name) (by omega) rfl;obtain ⟨v1,q1,d1⟩:=g 1 (.list uses.length (zao uses)) (by omega) rfl;obtain ⟨v2,q2,d2⟩:=g 2 (.int data) (by omega) rfl;obtain ⟨v3,q3,d3⟩:=g 3 (.list code.length (zri code)) (by omega) rfl;obtain ⟨v4,q4,d4⟩:=g 4 (.list fixes.length (zyi fixes)) (by omega) rfl;obtain ⟨v5,q5,d5⟩:=g 5 (.list entries.length (zk8 entries)) (by omega) rfl;obtain ⟨v6,q6,d6⟩:=g 6 (.int main) (by omega) rfl;obtain ⟨rfl,w0⟩:=zdd d0;obtain ⟨x1,y1,rfl,h1⟩:=za3 d1;obtain ⟨rfl,w2⟩:=zbb d2;obtain ⟨x3,y3,rfl,h3⟩:=za3 d3;obtain ⟨x4,y4,rfl,h4⟩:=za3 d4;obtain ⟨x5,y5,rfl,h5⟩:=za3 d5;obtain ⟨rfl,w6⟩:=zbb d6;exact ⟨b,off,x1,y1,x3,y3,x4,y4,x5,y5,ha,hb,q0,q1,q2,q3,q4,q5,q6,w0,h1,w2,h3,h4,h5,w6⟩
def ya9 (w:World) (a:OA) (n:Nat):Prop:=∀ b off,a=some ⟨b,off,none⟩->∀ i,i<n->∃ x k y,w.cell? ⟨b,off+i*7+1,none⟩=some (.slice x k y)/\k<=y
def zrc (w:World) (a:OA) (l:List Ob):Prop:=DAt w Tt a l.length (z9f l)/\ya9 w a l.length
theorem zrc.later {w w':World} {a:OA} {l:List Ob} (h:zrc w a l) (hb:Below w.heap.size w w'):zrc w' a l:=by
 refine ⟨h.1.later hb,fun b off ha i hi=>?_⟩;obtain ⟨x,k,y,hc,hk⟩:=h.2 b off ha i hi;obtain ⟨b',off',_,_,_,_,_,_,_,_,ha',hO⟩:=DAt.ob (l:=l) h.1 i hi;rw [ha] at ha'
 cases ha'
 exact ⟨x,k,y,(hb.cell (p:=⟨b,off+i*7+1,none⟩) hO.lt).trans hc,hk⟩
theorem zrc.ob {w:World} {a:OA} {l:List Ob} (h:zrc w a l) (i:Nat) (hi:i<l.length):∃ b off x1 y1 x3 y3 x4 y4 x5 y5,a=some ⟨b,off,none⟩/\ObAt w b (off+i*7) l[i] x1 y1 x3 y3 x4 y4 x5 y5/\l[i].uses.length<=y1:=by
 obtain ⟨b,off,x1,y1,x3,y3,x4,y4,x5,y5,ha,hO⟩:=DAt.ob h.1 i hi;obtain ⟨x,k,y,hc,hk⟩:=h.2 b off ha i hi;have h1:=hO.c1;rw [hc] at h1;cases h1;exact ⟨b,off,x1,y1,x3,y3,x4,y4,x5,y5,ha,hO,hk⟩
theorem z1v {w:World} {o:Ob} {x1 x3 x4 x5:OA} (y1 y3 y4 y5:Nat) (h:OvAt w o x1 x3 x4 x5):zav w Tt o.ds [.string o.name,.slice x1 o.uses.length y1,.int .i64 o.data,.slice x3 o.code.length y3,.slice x4 o.fixes.length y4,.slice x5 o.entries.length y5,.int .i64 o.main]:=by
 unfold Ob.ds;exact .cons (zfl h.wn) (.cons h.uses.val (.cons (zdk h.wd) (.cons h.code.val (.cons h.fixes.val (.cons h.entries.val (.cons (zdk h.wm) .nil))))))
theorem z7j {w:World} {o p:Ob} {x1 x3 x4 x5 u1 u3 u4 u5:OA} (y1 y3 y4 y5 v1 v3 v4 v5:Nat) (h:OvAt w o x1 x3 x4 x5) (k:OvAt w p u1 u3 u4 u5) (h1:o.uses.length<=y1) (k1:p.uses.length<=v1) (t:TypeId) :
 zrc (w.alloc (.cells #[.string o.name,.slice x1 o.uses.length y1,.int .i64 o.data,.slice x3 o.code.length y3,.slice x4 o.fixes.length y4,.slice x5 o.entries.length y5,.int .i64 o.main,.string p.name,.slice u1 p.uses.length v1,.int .i64 p.data,.slice u3 p.code.length v3,.slice u4 p.fixes.length v4,.slice u5 p.entries.length v5,.int .i64 p.main] t)) (some ⟨w.heap.size,0,none⟩) [o,p]:=by
 have hb:=Blk.new w #[.string o.name,.slice x1 o.uses.length y1,.int .i64 o.data,.slice x3 o.code.length y3,.slice x4 o.fixes.length y4,.slice x5 o.entries.length y5,.int .i64 o.main,.string p.name,.slice u1 p.uses.length v1,.int .i64 p.data,.slice u3 p.code.length v3,.slice u4 p.fixes.length v4,.slice u5 p.entries.length v5,.int .i64 p.main] t
 have e:z9f [o,p]=o.ds++p.ds:=by simp [z9f]
 refine ⟨zci hb ?_ (by rw [e];simp [Ob.ds]) (by rw [e];simp [Ob.ds]),fun b off ha i hi=>?_⟩
 . rw [e]
   have m:zai w Tt (w.alloc (.cells #[.string o.name,.slice x1 o.uses.length y1,.int .i64 o.data,.slice x3 o.code.length y3,.slice x4 o.fixes.length y4,.slice x5 o.entries.length y5,.int .i64 o.main,.string p.name,.slice u1 p.uses.length v1,.int .i64 p.data,.slice u3 p.code.length v3,.slice u4 p.fixes.length v4,.slice u5 p.entries.length v5,.int .i64 p.main] t)) Tt:=⟨by simp,fun b hb _=>⟨trivial,(al1 _ _).block b hb⟩⟩
   exact (z1v y1 y3 y4 y5 (h.later (al1 _ _))).append (z1v v1 v3 v4 v5 (k.later (al1 _ _)))
 . cases ha
   have hi':i=0\/i=1:=by simp at hi;omega
   rcases hi' with rfl | rfl
   . exact ⟨x1,_,y1,hb.cell 1 _ rfl,h1⟩
   . exact ⟨u1,_,v1,hb.cell 8 _ rfl,k1⟩
def z1w:Ob:=zqh zu1
theorem z7k:zxl zu1 = .ok z1w:=by kernel_rfl
theorem zu8 (p q:Un) (o r:Ob) (ho:zxl p = .ok o) (hr:zxl q = .ok r) (hP:∀ w:World,Calls Tryz.prog 75 #[] w fun e w'=>∃ a,e = .returned (.slice (some a) 2 2)/\DAt w' Tt (some a) 2 (z5m [p,q])/\Below w.heap.size w w') (w:World) :
 Calls Tryz.prog 85 #[] w fun e w'=>∃ a,e = .returned (.slice (some a) 2 2)/\zrc w' (some a) [o,r]/\Below w.heap.size w w':=by
 have HP:=hid hP;have HG1:=hid (fun (W:World) (x1:OA) (y1:Nat) (x2:OA) (y2:Nat) (x3:OA) (y3:Nat) (hU:UvAt W p x1 y1 x2 y2 x3 y3)=>z5q ho hU);have HG2:=hid (fun (W:World) (x1:OA) (y1:Nat) (x2:OA) (y2:Nat) (x3:OA) (y3:Nat) (hU:UvAt W q x1 y1 x2 y2 x3 y3)=>z5q hr hU);clear hP ho hr;go_enter Tryz.func85,Tryz.ntmps85;go_wp2_with fail;refine (HP.out _).mono ?_;rintro e w1 ⟨a,rfl,hD,hb1⟩;have HB1:=hid hb1;obtain ⟨b,off,a1,k1,a2,k2,a3,k3,ha,hx⟩:=(DAt.un (l:=[p,q]) hD) 0 (by simp);obtain rfl:=vac ha;have HU:=hid hx.uv;simp only [vbx,vbo,vbw] at hx HU;obtain ⟨hbl,z0,z1,z2,z3,z4,_,_,_,_,_⟩:=hx;clear hD hb1 ha;go_wp2_with fail;refine (HG1.out _ _ _ _ _ _ _ HU.out).mono ?_;rintro e w2 ⟨x1,y1,x3,y3,x4,y4,x5,y5,rfl,hO,hcp,hb2⟩
 have hBa:=al1 w2 (oC o x1 y1 x3 y3 x4 y4 x5 y5);have HB2:=hid (thenB HB1.out (thenB hb2 hBa));have HO:=hid (hO.later hBa);have HC:=hid hcp;have HX2:=hid (heap_newP w2 (oC o x1 y1 x3 y3 x4 y4 x5 y5));clear hO hcp hb2 hBa hbl z0 z1 z2 z3 z4 HU HB1;go_wp2_with fail
 obtain ⟨W2,hW2⟩:∃ W2,W2=w2.alloc (oC o x1 y1 x3 y3 x4 y4 x5 y5):=⟨_,rfl⟩
 rw [← hW2] at HB2 HO HX2 ⊢;clear hW2;refine (HP.out _).mono ?_;rintro e w3 ⟨a,rfl,hD,hb3⟩;have HB3:=hid (thenB HB2.out hb3);have HO3:=hid (HO.out.later hb3);have HX3:=hid (zak HX2.out hb3);obtain ⟨b,off,a1,k1,a2,k2,a3,k3,ha,hx⟩:=(DAt.un (l:=[p,q]) hD) 1 (by simp);obtain rfl:=vac ha;have HU:=hid hx.uv;simp only [vby,vbx,vdn] at hx HU;obtain ⟨hbl,z0,z1,z2,z3,z4,_,_,_,_,_⟩:=hx;clear hD hb3 ha HB2 HO HX2;go_wp2_with fail;refine (HG2.out _ _ _ _ _ _ _ HU.out).mono ?_;rintro e w4 ⟨u1,v1,u3,v3,u4,v4,u5,v5,rfl,hR,hcr,hb4⟩;have HB4:=hid (thenB HB3.out hb4);have HO4:=hid (HO3.out.later hb4);have HR4:=hid hR;have HCr:=hid hcr;have HX4:=hid (zak HX3.out hb4);clear hR hcr hb4 hbl z0 z1 z2 z3 z4 HU HB3 HO3 HX3;obtain ⟨q0,q1,q2,q3,q4,q5,q6,qz⟩:=zaj HX4.out
 go_wp2_with fail;go_ret;refine ⟨_,rfl,?_,thenB HB4.out (bl2 _ _ _)⟩;have:=z7j y1 y3 y4 y5 v1 v3 v4 v5 (HO4.out.later (al1 w4 (oC r u1 v1 u3 v3 u4 v4 u5 v5))) (HR4.out.later (al1 w4 (oC r u1 v1 u3 v3 u4 v4 u5 v5))) HC.out HCr.out 62;simp only [vdd] at this;exact this
theorem zu9 (w:World) :
 Calls Tryz.prog 85 #[] w fun e w'=>∃ a,e = .returned (.slice (some a) 2 2)/\zrc w' (some a) [zu5,z1w]/\Below w.heap.size w w':=
 zu8 zu0 zu1 zu5 z1w z7f z7k zu4 w
theorem zn3 (a b:OA) (c1 c2:Nat) (l:List ByteArray) (w:World) (ha:DAt w Tt a l.length (zao l)) (hb:DAt w Tt b l.length (zao l)) :
 Calls Tryz.prog 67 #[.slice a l.length c1,.slice b l.length c2] w fun e w'=>e = .returned (.bool true)/\∃ m,w'=w.drewN m:=by
 have hbd:=ha.bound;have HA:=hid ha;have HB:=hid hb;clear ha hb;go_enter Tryz.func67,Tryz.ntmps67;go_wp2_with fail
 go_loopw [5] (fun i wr=>∃ k m:Nat,k<=l.length/\i = .int .i64 k/\wr=w.drewN m) (fun i _=>l.length - (intOf i).toNat)
 case atStart=>exact ⟨0,0,vae _,rfl,rfl⟩
 case round=>
  obtain ⟨k,m,hk,rfl,rfl⟩:=hrel
  by_cases hlt:k<l.length
  . obtain ⟨b1,o1,rfl,hl1,p0,_⟩:=(DAt.str (l:=l) (HA.out.drw m)) k hlt
    obtain ⟨b2,o2,rfl,hl2,q0,_⟩:=(DAt.str (l:=l) (HB.out.drw m)) k hlt;generalize l[k]=lk at *;generalize hW:w.drewN m=W at *;have HW:=hid hW;clear hW;go_wp2_with fail
    go_quiet ((fail))
    go_wp2_with fail;go_roundw
    case rel=>exact ⟨k+1,m+nq,by omega,by go_num,by rw [← HW.out,vey]⟩
    case measure=>simp [intOf];omega
  . go_wp2_with fail
    go_ret;exact ⟨rfl,m,rfl⟩
theorem zrd (a b:OA) (c1 c2:Nat) (l:List Gi) (w:World) (ha:DAt w Tt a l.length (zri l)) (hb:DAt w Tt b l.length (zri l)) :
 Calls Tryz.prog 97 #[.slice a l.length c1,.slice b l.length c2] w fun e w'=>e = .returned (.bool true)/\∃ m,w'=w.drewN m:=by
 have hbd:=ha.bound;have HA:=hid ha;have HB:=hid hb;clear ha hb;go_enter Tryz.func97,Tryz.ntmps97;go_wp2_with fail
 go_loopw [5] (fun i wr=>∃ k m:Nat,k<=l.length/\i = .int .i64 k/\wr=w.drewN m) (fun i _=>l.length - (intOf i).toNat)
 case atStart=>exact ⟨0,0,vae _,rfl,rfl⟩
 case round=>
  obtain ⟨k,m,hk,rfl,rfl⟩:=hrel
  by_cases hlt:k<l.length
  . obtain ⟨b1,o1,rfl,hl1,p0,p1,p2,_,_,_⟩:=(DAt.gi (l:=l) (HA.out.drw m)) k hlt
    obtain ⟨b2,o2,rfl,hl2,q0,q1,q2,_,_,_⟩:=(DAt.gi (l:=l) (HB.out.drw m)) k hlt;generalize l[k]=lk at *;generalize hW:w.drewN m=W at *;have HW:=hid hW;clear hW;go_wp2_with fail
    go_quiet ((fail))
    go_wp2_with fail;go_roundw
    case rel=>exact ⟨k+1,m+nq,by omega,by go_num,by rw [← HW.out,vey]⟩
    case measure=>simp [intOf];omega
  . go_wp2_with fail
    go_ret;exact ⟨rfl,m,rfl⟩
theorem zkg (w:World) (m:Nat):Below w.heap.size w (w.drewN m):=zdw (Below.refl _ _) m
theorem zc5 (o:Ob) (x1:OA) (y1:Nat) (x3:OA) (y3:Nat) (x4:OA) (y4:Nat) (x5:OA) (y5:Nat) (u1:OA) (v1:Nat) (u3:OA) (v3:Nat) (u4:OA) (v4:Nat) (u5:OA) (v5:Nat) (w:World) (hO:OvAt w o x1 x3 x4 x5) (hU:OvAt w o u1 u3 u4 u5) :
 Calls Tryz.prog 38 #[.agg #[.string o.name,.slice x1 o.uses.length y1,.int .i64 o.data,.slice x3 o.code.length y3,.slice x4 o.fixes.length y4,.slice x5 o.entries.length y5,.int .i64 o.main],.agg #[.string o.name,.slice u1 o.uses.length v1,.int .i64 o.data,.slice u3 o.code.length v3,.slice u4 o.fixes.length v4,.slice u5 o.entries.length v5,.int .i64 o.main]] w fun e w'=>e = .returned (.bool true)/\Below w.heap.size w w':=by
 obtain ⟨W0,hW0⟩:∃ W0,W0=(w.alloc (oC o x1 y1 x3 y3 x4 y4 x5 y5)).alloc (oC o u1 v1 u3 v3 u4 v4 u5 v5):=⟨_,rfl⟩
 have hB:Below w.heap.size w W0:=by rw [hW0];exact bl2 _ _ _
 have hX:W0.heap[w.heap.size]? = some (oC o x1 y1 x3 y3 x4 y4 x5 y5):=by rw [hW0];exact zae (heap_newP _ _)
 have hY:W0.heap[w.heap.size+1]? = some (oC o u1 v1 u3 v3 u4 v4 u5 v5):=by rw [hW0];exact z1o _ _ _
 have hb4:=hO.fixes.bound;have HO:=hid (hO.later hB);have HU:=hid (hU.later hB);have HB:=hid hB;have HX:=hid hX;have HY:=hid hY;have HW:=hid hW0;obtain ⟨q0,q1,q2,q3,q4,q5,q6,qz⟩:=zaj hX;obtain ⟨r0,r1,r2,r3,r4,r5,r6,rz⟩:=zaj hY;have hst:(o.name.toList == o.name.toList)=true:=(zp4 _ _).trans (decide_eq_true rfl);clear hO hU hB hX hY hW0;go_enter Tryz.func38,Tryz.ntmps38;go_wp2_with fail;rw [← HW.out];clear HW;go_wp2_with fail;refine (zn3 x1 u1 y1 v1 o.uses W0 HO.out.uses HU.out.uses).mono ?_;rintro e W1 ⟨rfl,m1,h1⟩
 have hB1:Below W0.heap.size W0 W1:=by rw [h1];exact zkg _ _
 have HB1:=hid hB1;clear h1 hB1 q0 q1 q2 q3 q4 q5 q6 qz r0 r1 r2 r3 r4 r5 r6 rz;obtain ⟨q0,q1,q2,q3,q4,q5,q6,qz⟩:=zaj (zak HX.out HB1.out);obtain ⟨r0,r1,r2,r3,r4,r5,r6,rz⟩:=zaj (zak HY.out HB1.out);go_wp2_with fail;refine (zrd x3 u3 y3 v3 o.code W1 (HO.out.code.later HB1.out) (HU.out.code.later HB1.out)).mono ?_;rintro e W2 ⟨rfl,m2,h2⟩
 have hB2:Below W1.heap.size W1 W2:=by rw [h2];exact zkg _ _
 have HB2:=hid (thenB HB1.out hB2);clear h2 hB2 q0 q1 q2 q3 q4 q5 q6 qz r0 r1 r2 r3 r4 r5 r6 rz;obtain ⟨q0,q1,q2,q3,q4,q5,q6,qz⟩:=zaj (zak HX.out HB2.out);obtain ⟨r0,r1,r2,r3,r4,r5,r6,rz⟩:=zaj (zak HY.out HB2.out);go_wp2_with fail;refine (zq8 x5 u5 y5 v5 o.entries W2 (HO.out.entries.later HB2.out) (HU.out.entries.later HB2.out)).mono ?_;rintro e W3 ⟨rfl,m3,h3⟩
 have hB3:Below W2.heap.size W2 W3:=by rw [h3];exact zkg _ _
 have HB3:=hid (thenB HB2.out hB3);clear h3 hB3 q0 q1 q2 q3 q4 q5 q6 qz r0 r1 r2 r3 r4 r5 r6 rz;obtain ⟨q0,q1,q2,q3,q4,q5,q6,qz⟩:=zaj (zak HX.out HB3.out);obtain ⟨r0,r1,r2,r3,r4,r5,r6,rz⟩:=zaj (zak HY.out HB3.out);go_wp2_with fail
 go_loopw [5] (fun i wr=>∃ k:Nat,k<=o.fixes.length/\i = .int .i64 k/\Below W3.heap.size W3 wr) (fun i _=>o.fixes.length - (intOf i).toNat)
 case atStart=>exact ⟨0,vae _,rfl,Below.refl _ _⟩
 case round=>
  clear q0 q1 q2 q3 q4 q5 q6 qz r0 r1 r2 r3 r4 r5 r6 rz;obtain ⟨k,hk,rfl,hb⟩:=hrel;have HBw:=hid hb;have hB4:=thenB HB3.out hb;obtain ⟨q0,q1,q2,q3,q4,q5,q6,qz⟩:=zaj (zak HX.out hB4);obtain ⟨r0,r1,r2,r3,r4,r5,r6,rz⟩:=zaj (zak HY.out hB4)
  by_cases hlt:k<o.fixes.length
  . obtain ⟨b1,o1,rfl,hl1,s0,s1,s2,_,_,_⟩:=(HO.out.fixes.later hB4).gf k hlt
    obtain ⟨b2,o2,rfl,hl2,t0,t1,t2,_,_,_⟩:=(HU.out.fixes.later hB4).gf k hlt;clear hb hB4;generalize o.fixes[k]=fk at *;go_wp2_with fail
    go_quiet ((fail))
    go_wp2_with fail;go_roundw
    case rel=>exact ⟨k+1,by omega,by go_num,zdw HBw.out _⟩
    case measure=>simp [intOf];omega
  . have HBf:=hid (thenB HB.out hB4)
    clear hb hB4;go_wp2_with fail;go_ret;exact ⟨rfl,HBf.out⟩
end Go.Proofs.YtndkhgakfodldaaGreatDoor
