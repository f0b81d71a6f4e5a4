/-
  The document's text of an expression.
-/
import Derived.Test.YtcekpobmbmnplaaGreatDoorEq
namespace Go.Proofs.YtcekpobmbmnplaaGreatDoor
set_option maxRecDepth 100000
set_option maxHeartbeats 1600000
open Go.RowKit
theorem ExAt.later {w w':World} {A:Nat->Prop} {b o:Nat} {x:Ex} {aa:Option Addr} {cap:Nat} (h:ExAt w A b o x aa cap) (hb:Below w.heap.size w w'):ExAt w' A b o x aa cap:=
 ⟨Nat.lt_of_lt_of_le h.lt hb.size,(hb.cell (p:=⟨b,_,none⟩) h.lt).trans h.c0,(hb.cell (p:=⟨b,_,none⟩) h.lt).trans h.c1,(hb.cell (p:=⟨b,_,none⟩) h.lt).trans h.c2,(hb.cell (p:=⟨b,_,none⟩) h.lt).trans h.c3,(hb.cell (p:=⟨b,_,none⟩) h.lt).trans h.c4,h.args.later hb,h.wop,h.wn,h.wm,h.wna⟩
theorem zt9 {w W:World} {c0 c1 c2 c3 c4:Value} {T:TypeId} (hk:W.heap[w.heap.size]? = some (.cells #[c0,c1,c2,c3,c4] T (0,0))):W.cell? ⟨w.heap.size,2,none⟩=some (c2)/\W.cell? ⟨w.heap.size,3,none⟩=some (c3)/\W.cell? ⟨w.heap.size,4,none⟩=some (c4):=by
 obtain ⟨h0,h1,h2,h3,h4,h5⟩:=zaf hk;exact ⟨h2,h3,h4⟩
theorem zyj {A:Nat->Prop} {w W:World} {c0 c1 c2 c3 c4:Value} {T:TypeId} {b off cp:Nat} {y:Ex} {a2:Option Addr} (hx:ExAt w A b off y a2 cp) (hb:Below w.heap.size w W) (hk:W.heap[w.heap.size]? = some (.cells #[c0,c1,c2,c3,c4] T (0,0))):W.cell? ⟨w.heap.size,2,none⟩=some (c2)/\W.cell? ⟨w.heap.size,3,none⟩=some (c3)/\W.cell? ⟨w.heap.size,4,none⟩=some (c4)/\W.cell? ⟨b,off,none⟩=some (.int .i64 y.op)/\W.cell? ⟨b,off+1,none⟩=some (.int .i64 y.n)/\W.cell? ⟨b,off+2,none⟩=some (.string y.mod)/\W.cell? ⟨b,off+3,none⟩=some (.string y.name)/\W.cell? ⟨b,off+4,none⟩=some (.slice a2 y.args.length cp):=by
 obtain ⟨h0,h1,h2,h3,h4,h5⟩:=zaf hk;have k:=hx.later hb;exact ⟨h2,h3,h4,k.c0,k.c1,k.c2,k.c3,k.c4⟩
theorem zqy {A:Nat->Prop} {w W:World} {c0 c1 c2 c3 c4:Value} {T:TypeId} {b off cp cq:Nat} {y z:Ex} {a2 a3:Option Addr} (hx:ExAt w A b off y a2 cp) (hz:ExAt w A b (off+5) z a3 cq) (hb:Below w.heap.size w W) (hk:W.heap[w.heap.size]? = some (.cells #[c0,c1,c2,c3,c4] T (0,0))):W.cell? ⟨w.heap.size,0,none⟩=some (c0)/\W.cell? ⟨w.heap.size,4,none⟩=some (c4)/\W.cell? ⟨b,off,none⟩=some (.int .i64 y.op)/\W.cell? ⟨b,off+1,none⟩=some (.int .i64 y.n)/\W.cell? ⟨b,off+2,none⟩=some (.string y.mod)/\W.cell? ⟨b,off+3,none⟩=some (.string y.name)/\W.cell? ⟨b,off+4,none⟩=some (.slice a2 y.args.length cp)/\W.cell? ⟨b,off+5,none⟩=some (.int .i64 z.op)/\W.cell? ⟨b,off+6,none⟩=some (.int .i64 z.n)/\W.cell? ⟨b,off+7,none⟩=some (.string z.mod)/\W.cell? ⟨b,off+8,none⟩=some (.string z.name)/\W.cell? ⟨b,off+9,none⟩=some (.slice a3 z.args.length cq):=by
 obtain ⟨h0,h1,h2,h3,h4,h5⟩:=zaf hk;have k:=hx.later hb;have q:=hz.later hb;exact ⟨h0,h4,k.c0,k.c1,k.c2,k.c3,k.c4,q.c0,q.c1,q.c2,q.c3,q.c4⟩
theorem DAt.ex0 {w:World} {A:Nat->Prop} {a:Option Addr} {y:Ex} {l:List Ex} (h:DAt w A a (y :: l).length (zaw (y :: l))):∃ b off aa cap,a=some ⟨b,off,none⟩/\ExAt w A b off y aa cap:=by
 obtain ⟨b,off,aa,cap,rfl,hx⟩:=h.ex 0 (by simp);rw [Nat.zero_mul,Nat.add_zero] at hx;exact ⟨b,off,aa,cap,rfl,hx⟩
theorem DAt.ex1 {w:World} {A:Nat->Prop} {a:Option Addr} {y z:Ex} {l:List Ex} (h:DAt w A a (y :: z :: l).length (zaw (y :: z :: l))):∃ b off aa cap ab cb,a=some ⟨b,off,none⟩/\ExAt w A b off y aa cap/\ExAt w A b (off+5) z ab cb:=by
 obtain ⟨b,off,aa,cap,rfl,hx⟩:=h.ex0;obtain ⟨b',off',ab,cb,e,hz⟩:=h.ex 1 (by simp)
 cases e
 rw [Nat.one_mul] at hz;exact ⟨b,off,aa,cap,ab,cb,rfl,hx,hz⟩
theorem zua (A:Nat->Prop) (m nm:ByteArray) (hm:m.size<=100) (hn:nm.size<=100) (y:Ex) (hT:Tx A y) (hs:(strOf (showL (tE y))).size<=1000000) (hp:0<(tE y).length) (hr:0<(refT m nm).length) (hrs:(strOf (showL (refT m nm))).size<=1000) (b off cap:Nat) (a2:Option Addr) (cp:Nat) (w:World) (hx:ExAt w A b off y a2 cp) :
 Calls Tryz.prog 136 #[.agg #[.int .i64 4,.int .i64 0,.string m,.string nm,.slice (some ⟨b,off,none⟩) 1 cap]] w fun e w'=>e = .returned (.string (strOf (showL (refT m nm++kTk tLs :: (tE y++[kTk tRs])))))/\Below w.heap.size w w':=by
 have HF:Hid (strOf (showL (refT m nm))++⟨#[32,91,32]⟩++strOf (showL (tE y))++⟨#[32,93]⟩=strOf (showL (refT m nm++kTk tLs :: (tE y++[kTk tRs])))):=by
  show strOf (showL (refT m nm))++⟨#[32,91,32]⟩++strOf (showL (tE y))++⟨#[32,93]⟩=_
  have e:showL (refT m nm++kTk tLs :: (tE y++[kTk tRs]))=showL (refT m nm)++[32,91,32]++showL (tE y)++[32,93]:=by
   apply zdu
   simp [zcn,zbo,zdl,zd2,zbc hp,zbc hr]
  rw [e,← zad,← zad,← zad];rfl
 have HT:=hid hT;have HX:=hid hx
 obtain ⟨W0,hW0⟩:∃ W0,W0=w.alloc (.cells #[.int .i64 4,.int .i64 0,.string m,.string nm,.slice (some ⟨b,off,none⟩) 1 cap] 76):=⟨_,rfl⟩
 have hB0:Below w.heap.size w W0:=by rw [hW0];exact al1 _ _
 have hK0:W0.heap[w.heap.size]? = some (.cells #[.int .i64 4,.int .i64 0,.string m,.string nm,.slice (some ⟨b,off,none⟩) 1 cap] 76 (0,0)):=by rw [hW0];exact heap_newP _ _
 have HR:=hid (fun W:World=>zgx m nm W hm hn);clear hT hx hp hr hm hn;generalize strOf (showL (refT m nm))=S1 at *;have HTy:=hid (fun (W:World) (h:ExAt W A b off y a2 cp)=>HT.out a2 cp W h.args);clear HT;generalize strOf (showL (tE y))=S2 at *;go_enter Tryz.func136,Tryz.ntmps136;go_upto_region 9 with fail;rw [← hW0];have HB1:=hid (hB0.drew);have HK1:Hid (W0.drew.heap[w.heap.size]? = some (.cells #[.int .i64 4,.int .i64 0,.string m,.string nm,.slice (some ⟨b,off,none⟩) 1 cap] 76 (0,0))):=hK0;have FF:=hid (zyj HX.out HB1.out HK1.out);clear hW0 hB0 hK0
 go_region_held (fun W=>W.cell? ⟨w.heap.size,2,none⟩=some (.string m)/\W.cell? ⟨w.heap.size,3,none⟩=some (.string nm)/\W.cell? ⟨w.heap.size,4,none⟩=some (.slice (some ⟨b,off,none⟩) 1 cap)/\W.cell? ⟨b,off,none⟩=some (.int .i64 y.op)/\W.cell? ⟨b,off+1,none⟩=some (.int .i64 y.n)/\W.cell? ⟨b,off+2,none⟩=some (.string y.mod)/\W.cell? ⟨b,off+3,none⟩=some (.string y.name)/\W.cell? ⟨b,off+4,none⟩=some (.slice a2 y.args.length cp)) (exact FF.out)
  (first
  | (go_at_call 135;refine (HR.out _).mono ?_;rintro e w1 ⟨rfl,rfl⟩)
  | (go_at_call 136;refine (HTy.out _ (HX.out.later HB1.out)).mono ?_;rintro e w2 ⟨rfl,hb2⟩;have HB2:=hid (zab HB1.out hb2);have HK2:=hid ((hb2.block _ (zac HK1.out)).trans HK1.out);have FF:=hid (zyj HX.out HB2.out HK2.out);clear hb2))
 all_goals
  go_wp2_with fail;go_ret;exact ⟨zbu HF.out,HB2.out⟩
theorem zub (A:Nat->Prop) (m nm:ByteArray) (hm:m.size<=100) (hn:nm.size<=100) (l:List Ex) (hr:0<(refT m nm).length) (hrs:(strOf (showL (refT m nm))).size<=1000) (aa:Option Addr) (cap:Nat) (hs:(strOf (spc (commas (tEs l)))).size<=1000000000) (hC:∀ W,DAt W A aa l.length (zaw l)->Calls Tryz.prog 137 #[.slice aa l.length cap] W fun e w'=>e = .returned (.string (strOf (spc (commas (tEs l)))))/\Below W.heap.size W w') (w:World) (hx:DAt w A aa l.length (zaw l)) :
 Calls Tryz.prog 136 #[.agg #[.int .i64 5,.int .i64 0,.string m,.string nm,.slice aa l.length cap]] w fun e w'=>e = .returned (.string (strOf (showL (refT m nm++kTk tLp :: (commas (tEs l)++[kTk tRp])))))/\Below w.heap.size w w':=by
 have HF:Hid (strOf (showL (refT m nm))++⟨#[32,40]⟩++strOf (spc (commas (tEs l)))++⟨#[32,41]⟩=strOf (showL (refT m nm++kTk tLp :: (commas (tEs l)++[kTk tRp])))):=by
  show strOf (showL (refT m nm))++⟨#[32,40]⟩++strOf (spc (commas (tEs l)))++⟨#[32,41]⟩=_
  have e:showL (refT m nm++kTk tLp :: (commas (tEs l)++[kTk tRp]))=showL (refT m nm)++[32,40]++spc (commas (tEs l))++[32,41]:=by
   apply zdu
   simp [zcn,zbo,zdl,zd2,zbc hr]
  rw [e,← zad,← zad,← zad];rfl
 have HC:=hid hC;have HX:=hid hx
 obtain ⟨W0,hW0⟩:∃ W0,W0=w.alloc (.cells #[.int .i64 5,.int .i64 0,.string m,.string nm,.slice aa l.length cap] 76):=⟨_,rfl⟩
 have hB0:Below w.heap.size w W0:=by rw [hW0];exact al1 _ _
 have hK0:W0.heap[w.heap.size]? = some (.cells #[.int .i64 5,.int .i64 0,.string m,.string nm,.slice aa l.length cap] 76 (0,0)):=by rw [hW0];exact heap_newP _ _
 have HR:=hid (fun W:World=>zgx m nm W hm hn);clear hC hx hr hm hn;generalize strOf (showL (refT m nm))=S1 at *;generalize strOf (spc (commas (tEs l)))=S2 at *;go_enter Tryz.func136,Tryz.ntmps136;go_upto_region 11 with fail;rw [← hW0];have HB1:=hid (hB0.drew);have HK1:Hid (W0.drew.heap[w.heap.size]? = some (.cells #[.int .i64 5,.int .i64 0,.string m,.string nm,.slice aa l.length cap] 76 (0,0))):=hK0;have FF:=hid (zt9 HK1.out);clear hW0 hB0 hK0
 go_region_held (fun W=>W.cell? ⟨w.heap.size,2,none⟩=some (.string m)/\W.cell? ⟨w.heap.size,3,none⟩=some (.string nm)/\W.cell? ⟨w.heap.size,4,none⟩=some (.slice aa l.length cap)) (exact FF.out)
  (first
  | (go_at_call 135;refine (HR.out _).mono ?_;rintro e w1 ⟨rfl,rfl⟩)
  | (go_at_call 137;refine (HC.out _ (HX.out.later HB1.out)).mono ?_;rintro e w2 ⟨rfl,hb2⟩;have HB2:=hid (zab HB1.out hb2);have HK2:=hid ((hb2.block _ (zac HK1.out)).trans HK1.out);have FF:=hid (zt9 HK2.out);clear hb2))
 all_goals
  go_wp2_with fail;go_ret;exact ⟨zbu HF.out,HB2.out⟩
theorem zuc (A:Nat->Prop) (j:Nat) (hj:j<opTexts.length) (y z:Ex) (hTy:Tx A y) (hTz:Tx A z) (hs:(strOf (showL (tE y))).size<=1000000) (hsz:(strOf (showL (tE z))).size<=1000000) (hp:0<(tE y).length) (hpz:0<(tE z).length) (b off cap:Nat) (a2:Option Addr) (cp:Nat) (a3:Option Addr) (cq:Nat) (w:World) (hx:ExAt w A b off y a2 cp) (hz:ExAt w A b (off+5) z a3 cq) :
 Calls Tryz.prog 136 #[.agg #[.int .i64 (7+(j:Int)),.int .i64 0,.string ⟨#[]⟩,.string ⟨#[]⟩,.slice (some ⟨b,off,none⟩) 2 cap]] w fun e w'=>e = .returned (.string (strOf (showL (kTk tLp :: (tE y++kTk opTexts[j] :: (tE z++[kTk tRp]))))))/\Below w.heap.size w w':=by
 have HF:Hid ((⟨#[40,32]⟩:ByteArray)++strOf (showL (tE y))++⟨#[32]⟩++opTexts[j]++⟨#[32]⟩++strOf (showL (tE z))++⟨#[32,41]⟩=strOf (showL (kTk tLp :: (tE y++kTk opTexts[j] :: (tE z++[kTk tRp]))))):=by
  show (⟨#[40,32]⟩:ByteArray)++strOf (showL (tE y))++⟨#[32]⟩++opTexts[j]++⟨#[32]⟩++strOf (showL (tE z))++⟨#[32,41]⟩=_
  have e:showL (kTk tLp :: (tE y++kTk opTexts[j] :: (tE z++[kTk tRp])))=[40,32]++showL (tE y)++[32]++opTexts[j].data.toList++[32]++showL (tE z)++[32,41]:=by
   apply zdu
   simp [zcn,zbo,zdl,zd2,zbc hp,zbc hpz]
  rw [e,← zad,← zad,← zad,← zad,← zad,← zad,za8];rfl
 have HX:=hid hx;have HZ:=hid hz;have hj9:j<9:=hj
 have hos:opTexts[j].size<=1:=by
  obtain rfl | rfl | rfl | rfl | rfl | rfl | rfl | rfl | rfl:j=0\/j=1\/j=2\/j=3\/j=4\/j=5\/j=6\/j=7\/j=8:=by omega
  all_goals exact Nat.le_refl _
 have n1:((7+(j:Int)) == 1)=false:=by simp;omega
 have n2:((7+(j:Int)) == 2)=false:=by simp;omega
 have n3:((7+(j:Int)) == 3)=false:=by simp;omega
 have n4:((7+(j:Int)) == 4)=false:=by simp;omega
 have n5:((7+(j:Int)) == 5)=false:=by simp;omega
 have n6:((7+(j:Int)) == 6)=false:=by simp;omega
 have HO:=hid (fun W:World=>zlp j hj W)
 obtain ⟨W0,hW0⟩:∃ W0,W0=w.alloc (.cells #[.int .i64 (7+(j:Int)),.int .i64 0,.string ⟨#[]⟩,.string ⟨#[]⟩,.slice (some ⟨b,off,none⟩) 2 cap] 76):=⟨_,rfl⟩
 have hB0:Below w.heap.size w W0:=by rw [hW0];exact al1 _ _
 have hK0:W0.heap[w.heap.size]? = some (.cells #[.int .i64 (7+(j:Int)),.int .i64 0,.string ⟨#[]⟩,.string ⟨#[]⟩,.slice (some ⟨b,off,none⟩) 2 cap] 76 (0,0)):=by rw [hW0];exact heap_newP _ _
 have HTy:=hid (fun (W:World) (h:ExAt W A b off y a2 cp)=>hTy a2 cp W h.args);have HTz:=hid (fun (W:World) (h:ExAt W A b (off+5) z a3 cq)=>hTz a3 cq W h.args);clear hTy hTz hx hz hp hpz;generalize strOf (showL (tE y))=S1 at *;generalize strOf (showL (tE z))=S3 at *;generalize opTexts[j]=S2 at *;go_enter Tryz.func136,Tryz.ntmps136;go_upto_region 14 with fail;rw [← hW0];have HB1:=hid (hB0.drew);have HK1:Hid (W0.drew.heap[w.heap.size]? = some (.cells #[.int .i64 (7+(j:Int)),.int .i64 0,.string ⟨#[]⟩,.string ⟨#[]⟩,.slice (some ⟨b,off,none⟩) 2 cap] 76 (0,0))):=hK0;have FF:=hid (zqy HX.out HZ.out HB1.out HK1.out);clear hW0 hB0 hK0
 go_region_held (fun W=>W.cell? ⟨w.heap.size,0,none⟩=some (.int .i64 (7+(j:Int)))/\W.cell? ⟨w.heap.size,4,none⟩=some (.slice (some ⟨b,off,none⟩) 2 cap)/\W.cell? ⟨b,off,none⟩=some (.int .i64 y.op)/\W.cell? ⟨b,off+1,none⟩=some (.int .i64 y.n)/\W.cell? ⟨b,off+2,none⟩=some (.string y.mod)/\W.cell? ⟨b,off+3,none⟩=some (.string y.name)/\W.cell? ⟨b,off+4,none⟩=some (.slice a2 y.args.length cp)/\W.cell? ⟨b,off+5,none⟩=some (.int .i64 z.op)/\W.cell? ⟨b,off+6,none⟩=some (.int .i64 z.n)/\W.cell? ⟨b,off+7,none⟩=some (.string z.mod)/\W.cell? ⟨b,off+8,none⟩=some (.string z.name)/\W.cell? ⟨b,off+9,none⟩=some (.slice a3 z.args.length cq)) (exact FF.out)
  (first
  | (go_at_call 134;refine (HO.out _).mono ?_;rintro e w3 ⟨rfl,hb3⟩;have HB3:=hid (zab HB2.out hb3);have HK3:=hid ((hb3.block _ (zac HK2.out)).trans HK2.out);have FF:=hid (zqy HX.out HZ.out HB3.out HK3.out);clear hb3)
  | (go_at_call_of 136 (Ex.op y);refine (HTy.out _ (HX.out.later HB1.out)).mono ?_;rintro e w2 ⟨rfl,hb2⟩;have HB2:=hid (zab HB1.out hb2);have HK2:=hid ((hb2.block _ (zac HK1.out)).trans HK1.out);have FF:=hid (zqy HX.out HZ.out HB2.out HK2.out);clear hb2)
  | (go_at_call_of 136 (Ex.op z);refine (HTz.out _ (HZ.out.later HB3.out)).mono ?_;rintro e w4 ⟨rfl,hb4⟩;have HB4:=hid (zab HB3.out hb4);have HK4:=hid ((hb4.block _ (zac HK3.out)).trans HK3.out);have FF:=hid (zqy HX.out HZ.out HB4.out HK4.out);clear hb4))
 all_goals
  go_wp2_with fail;go_ret;exact ⟨zbu HF.out,HB4.out⟩
theorem zxc (A:Nat->Prop) (y:Ex) (hT:Tx A y) (hs:(strOf (showL (tE y))).size<=1000000) (hp:0<(tE y).length) (b off cap:Nat) (a2:Option Addr) (cp:Nat) (w:World) (hx:ExAt w A b off y a2 cp) :
 Calls Tryz.prog 136 #[.agg #[.int .i64 6,.int .i64 0,.string ⟨#[]⟩,.string ⟨#[]⟩,.slice (some ⟨b,off,none⟩) 1 cap]] w fun e w'=>e = .returned (.string (strOf (showL (kTk tNot :: tE y))))/\Below w.heap.size w w':=by
 have HF:Hid ((⟨#[33,32]⟩:ByteArray)++strOf (showL (tE y))=strOf (showL (kTk tNot :: tE y))):=by
  show (⟨#[33,32]⟩:ByteArray)++strOf (showL (tE y))=_
  have e:showL (kTk tNot :: tE y)=[33,32]++showL (tE y):=by
   apply zdu
   simp [zbo,zd2,zbc hp]
  rw [e,← zad];rfl
 have HX:=hid hx;have HTy:=hid (fun (W:World) (h:ExAt W A b off y a2 cp)=>hT a2 cp W h.args);have hc0:=hx.c0;have hc1:=hx.c1;have hc2:=hx.c2;have hc3:=hx.c3;have hc4:=hx.c4;have hlb:=hx.lt;clear hT hx hp;generalize strOf (showL (tE y))=S1 at *;go_enter Tryz.func136,Tryz.ntmps136;go_wp2_with fail;refine (HTy.out _ (HX.out.later (al1 _ _))).mono ?_;rintro e w2 ⟨rfl,hb2⟩;go_wp2_with fail;go_ret;exact ⟨zbu HF.out,zab (al1 _ _) hb2⟩
theorem zxd (n:Nat) (hn:n<=1099511627775) (aa:Option Addr) (cap:Nat) (w:World) :
 Calls Tryz.prog 136 #[.agg #[.int .i64 1,.int .i64 (n:Int),.string ⟨#[]⟩,.string ⟨#[]⟩,.slice aa 0 cap]] w fun e w'=>e = .returned (.string (strOf (showL ([nTk (n:Int)]))))/\Below w.heap.size w w':=by
 have HF:Hid (strOf (Lib.decDigits n)=strOf (showL [nTk (n:Int)])):=by
  show _=_
  rw [zpj,zzb];rfl
 go_enter Tryz.func136,Tryz.ntmps136;go_wp2_with fail;refine (zfo n _ (by omega)).mono ?_;rintro e w2 ⟨rfl,hb2⟩;go_wp2_with fail;go_ret;exact ⟨zbu HF.out,zab (al1 _ _) hb2⟩
theorem zzc (aa:Option Addr) (cap:Nat) (w:World) :
 Calls Tryz.prog 136 #[.agg #[.int .i64 2,.int .i64 0,.string ⟨#[]⟩,.string ⟨#[]⟩,.slice aa 0 cap]] w fun e w'=>e = .returned (.string (strOf (showL ([kTk tIn]))))/\Below w.heap.size w w':=by
 have HF:Hid ((⟨#[105,110]⟩:ByteArray)=strOf (showL [kTk tIn])):=by
  show _=_
  rw [zpj,zd2];rfl
 have HB:=hid (fun o=>al1 w o);go_enter Tryz.func136,Tryz.ntmps136;go_wp2_with fail;go_ret;exact ⟨zbu HF.out,HB.out _⟩
theorem zxe (m nm:ByteArray) (hm:m.size<=100) (hn:nm.size<=100) (aa:Option Addr) (cap:Nat) (w:World) :
 Calls Tryz.prog 136 #[.agg #[.int .i64 3,.int .i64 0,.string m,.string nm,.slice aa 0 cap]] w fun e w'=>e = .returned (.string (strOf (showL (refT m nm))))/\Below w.heap.size w w':=by
 have HR:=hid (fun W:World=>zgx m nm W hm hn);have HB:=hid (fun o=>al1 w o);generalize strOf (showL (refT m nm))=S1 at *;go_enter Tryz.func136,Tryz.ntmps136;go_wp2_with fail;refine (HR.out _).mono ?_;rintro e w2 ⟨rfl,rfl⟩;go_wp2_with fail;go_ret;exact ⟨rfl,HB.out _⟩
end Go.Proofs.YtcekpobmbmnplaaGreatDoor

namespace Go.Proofs.YtcekpobmbmnplaaGreatDoor
open Go.RowKit
theorem z01:∀ k,k<7->TB k<=2548:=by decide
theorem zb3 {s:ByteArray} (h:zae s=true):s.size<=8:=by
 unfold zae at h;rw [Bool.and_eq_true] at h;have:=zr3 h.2;rwa [Lx.len_toList] at this
theorem zgy {s:ByteArray} (h:s.size=0\/zae s=true):s.size<=100:=by
 rcases h with h | h
 . omega
 . have:=zb3 h;omega
theorem zh2 (m n:ByteArray):0<(refT m n).length:=by unfold refT;split<;>simp
theorem zh3 {m n:ByteArray} (h:zae n=true) (k:m.size=0\/zae m=true):(strOf (showL (refT m n))).size<=1000:=by
 have:=zh1 (zqb h k);have h3:=zng m n
 rw [zbr];omega
theorem zud {k:Nat} (hk:k<7) {l:List Ex} (hm:zao k l=false) (ho:∀ x ∈ l,exOk x):∀ x ∈ l,(strOf (showL (tE x))).size<=1000000/\0<(tE x).length:=fun x hx=>by
 have h1:=(zik k l hm).1 x hx;have h2:=z01 k hk;have h3:=zh1 (z0q (ho x hx));rw [zbr];exact ⟨by omega,zrp (ho x hx)⟩
theorem zj4 {k:Nat} (hk:k<7) {l:List Ex} (hm:zao k l=false) (ho:∀ x ∈ l,exOk x):∀ j,j<=l.length->(strOf (spc (commas (tEs (l.take j))))).size<=1000000000:=fun j hj=>by
 have h2:=z01 k hk;have h3:=(zik k l hm).2
 have hr:∀ y ∈ tEs (l.take j),zam y:=fun y hy=>by
  obtain ⟨z,hz,rfl⟩:=zho hy;exact z0q (ho z (List.mem_of_mem_take hz))
 have h4:=zmp (zii _ hr)
 have h5:=zma (tEs (l.take j)) 2548 (fun y hy=>by
  obtain ⟨z,hz,rfl⟩:=zho hy;have:=(zik k l hm).1 z (List.mem_of_mem_take hz)
  omega)
 rw [zgl,List.length_take,Nat.min_eq_left hj] at h5;have h6:j*(2548+1)<=3*2549:=Nat.mul_le_mul (by omega) (Nat.le_refl _)
 rw [zbr];omega
theorem zmq (A:Nat->Prop) (k:Nat) (hk:k<7) (op n:Int) (m nm:ByteArray) (args:List Ex) (h1:exB op=true) (h2:zca (exS op) m nm=true) (h3:nOk (exS op) n=true) (h4:zas (exS op) args.length=true) (h5:∀ a ∈ args,exOk a)
 (hm:zao k args=false) (IH:∀ y ∈ args,Tx A y):Tx A (.mk op n m nm args):=by
 have hS:=zud hk hm h5;intro aa cap w hD;simp only [Ex.op,Ex.n,Ex.mod,Ex.name,Ex.args] at hD ⊢;simp only [tE]
 rcases zkl h1 with rfl | rfl | rfl | rfl | rfl | rfl | hop
 . obtain ⟨rfl,rfl⟩:=zbh (sh:=exS 1) rfl h2
   obtain rfl:=List.eq_nil_of_length_eq_zero (zay (h:=exS 1) (n:=0) h4 rfl rfl);have hn:ze8 n=true:=h3;unfold ze8 at hn;simp at hn
   obtain ⟨n,rfl⟩:∃ k:Nat,n=k:=⟨n.toNat,by omega⟩
   exact zxd n (by omega) aa cap w
 . obtain ⟨rfl,rfl⟩:=zbh (sh:=exS 2) rfl h2
   obtain rfl:=List.eq_nil_of_length_eq_zero (zay (h:=exS 2) (n:=0) h4 rfl rfl);obtain rfl:n=0:=of_decide_eq_true h3;exact zzc aa cap w
 . obtain ⟨a,b⟩:=zbs rfl h2
   obtain rfl:=List.eq_nil_of_length_eq_zero (zay (h:=exS 3) (n:=0) h4 rfl rfl);obtain rfl:n=0:=of_decide_eq_true h3;exact zxe m nm (zgy b) (by have:=zb3 a;omega) aa cap w
 . obtain ⟨a,b⟩:=zbs rfl h2
   obtain ⟨y,rfl⟩:=zld (zay (h:=exS 4) (n:=1) h4 rfl rfl);obtain rfl:n=0:=of_decide_eq_true h3;obtain ⟨bb,off,a2,cp,rfl,hx⟩:=DAt.ex0 hD;have hy:=hS y (by simp);have:=zua A m nm (zgy b) (by have:=zb3 a;omega) y (IH y (by simp)) hy.1 hy.2 (zh2 m nm) (zh3 a b) bb off cap a2 cp w hx;simpa [exTok,tEs] using this
 . obtain ⟨a,b⟩:=zbs rfl h2
   obtain rfl:n=0:=of_decide_eq_true h3;have hc:=zj4 hk hm h5;have h3':=(zik k args hm).2;have:=zub A m nm (zgy b) (by have:=zb3 a;omega) args (zh2 m nm) (zh3 a b) aa cap (by have:=hc args.length (Nat.le_refl _);rwa [List.take_length] at this) (fun W hW=>zn9 A args aa cap W hW h3' IH hS hc) w hD;simpa [exTok] using this
 . obtain ⟨rfl,rfl⟩:=zbh (sh:=exS 6) rfl h2
   obtain ⟨y,rfl⟩:=zld (zay (h:=exS 6) (n:=1) h4 rfl rfl);obtain rfl:n=0:=of_decide_eq_true h3;obtain ⟨bb,off,a2,cp,rfl,hx⟩:=DAt.ex0 hD;have hy:=hS y (by simp);have:=zxc A y (IH y (by simp)) hy.1 hy.2 bb off cap a2 cp w hx;simpa [exTok,tEs] using this
 . have hSh:exS op=⟨false,false,2,2,false,false⟩:=by
    unfold exS zhd
    rw [if_neg (by omega),if_neg (by omega),if_neg (by omega),if_neg (by omega),if_neg (by omega),if_neg (by omega),if_pos hop];rfl
   rw [hSh] at h2 h3 h4;obtain ⟨rfl,rfl⟩:=zbh rfl h2;obtain ⟨y,z,rfl⟩:=z0r (zay (n:=2) h4 rfl rfl);obtain rfl:n=0:=of_decide_eq_true h3;obtain ⟨bb,off,a2,cp,a3,cq,rfl,hx,hz⟩:=DAt.ex1 hD;have hy:=hS y (by simp);have hy2:=hS z (by simp)
   obtain ⟨j,hj,rfl⟩:∃ j:Nat,j<9/\op=7+j:=⟨(op - 7).toNat,by omega,by omega⟩
   have hj':j<opTexts.length:=hj;have:=zuc A j hj' y z (IH y (by simp)) (IH z (by simp)) hy.1 hy2.1 hy.2 hy2.2 bb off cap a2 cp a3 cq w hx hz
   have e:exTok (7+(j:Int)) 0 ⟨#[]⟩ ⟨#[]⟩ (tEs [y,z])=kTk tLp :: (tE y++kTk opTexts[j] :: (tE z++[kTk tRp])):=by
    unfold exTok;rw [if_neg (by omega),if_neg (by omega),if_neg (by omega),if_neg (by omega),if_neg (by omega),if_neg (by omega)]
    have e2:opTk (7+(j:Int))=kTk opTexts[j]:=by
     unfold opTk;rw [show (7+(j:Int) - 7).toNat=j from by omega,List.getD_eq_getElem?_getD,List.getElem?_eq_getElem hj',Option.getD_some]
    rw [e2];simp [tEs]
   rw [e];exact this
theorem zi6 (A:Nat->Prop):∀ (k:Nat) (_:k<7) (l:List Ex),zao k l=false->(∀ x ∈ l,exOk x)->∀ x ∈ l,Tx A x
 | 0,_,l,h,_,x,hx=>by
   simp [zao] at h
   rw [h] at hx;cases hx
 | k + 1,hk,l,h,ho,x,hx=>by
   simp only [zao,Bool.or_eq_false_iff] at h
   have a2:zao k x.args=false:=by
    have:=h.2;rw [List.any_eq_false] at this;simpa using this x hx
   have hox:=ho x hx
   cases hox with
   | mk h1 h2 h3 h4 h5=>
     exact zmq A k (by omega) _ _ _ _ _ h1 h2 h3 h4 h5 a2 (fun y hy=>zi6 A k (by omega) _ a2 h5 y hy)
end Go.Proofs.YtcekpobmbmnplaaGreatDoor

namespace Go.Proofs.YtcekpobmbmnplaaGreatDoor
set_option maxRecDepth 100000
set_option maxHeartbeats 1600000
open Go.RowKit
def Bx (A:Nat->Prop) (l:List St):Prop:=∀ (a:Option Addr) (cap:Nat) (w:World),DAt w A a l.length (za0 l)->Calls Tryz.prog 96 #[.slice a l.length cap] w fun e w'=>e = .returned (.string (strOf (showL (brT (tSs l)))))/\Below w.heap.size w w'
def Sx (A:Nat->Prop) (s:St):Prop:=∀ (a1:Option Addr) (c1:Nat) (a2:Option Addr) (c2:Nat) (a3:Option Addr) (c3:Nat) (w:World),DAt w A a1 s.args.length (zaw s.args)->DAt w A a2 s.body.length (za0 s.body)->DAt w A a3 s.other.length (za0 s.other)->
 Calls Tryz.prog 123 #[.agg #[.int .i64 s.op,.string s.mod,.string s.name,.slice a1 s.args.length c1,.slice a2 s.body.length c2,.slice a3 s.other.length c3]] w fun e w'=>e = .returned (.string (strOf (showL (tS s))))/\Below w.heap.size w w'
theorem zue {w W:World} {c0 c1 c2 c3 c4 c5:Value} {T:TypeId} (hk:W.heap[w.heap.size]? = some (.cells #[c0,c1,c2,c3,c4,c5] T (0,0))):W.cell? ⟨w.heap.size,1,none⟩=some (c1)/\W.cell? ⟨w.heap.size,2,none⟩=some (c2)/\W.cell? ⟨w.heap.size,3,none⟩=some (c3)/\W.cell? ⟨w.heap.size,4,none⟩=some (c4):=by
 obtain ⟨h0,h1,h2,h3,h4,h5,h6⟩:=zal hk;exact ⟨h1,h2,h3,h4⟩
theorem zgf {A:Nat->Prop} {w W:World} {c0 c1 c2 c3 c4 c5:Value} {T:TypeId} {b off cp:Nat} {y:Ex} {a2:Option Addr} (hx:ExAt w A b off y a2 cp) (hb:Below w.heap.size w W) (hk:W.heap[w.heap.size]? = some (.cells #[c0,c1,c2,c3,c4,c5] T (0,0))):W.cell? ⟨w.heap.size,1,none⟩=some (c1)/\W.cell? ⟨w.heap.size,2,none⟩=some (c2)/\W.cell? ⟨w.heap.size,3,none⟩=some (c3)/\W.cell? ⟨w.heap.size,4,none⟩=some (c4)/\W.cell? ⟨b,off,none⟩=some (.int .i64 y.op)/\W.cell? ⟨b,off+1,none⟩=some (.int .i64 y.n)/\W.cell? ⟨b,off+2,none⟩=some (.string y.mod)/\W.cell? ⟨b,off+3,none⟩=some (.string y.name)/\W.cell? ⟨b,off+4,none⟩=some (.slice a2 y.args.length cp):=by
 obtain ⟨h0,h1,h2,h3,h4,h5,h6⟩:=zal hk;have k:=hx.later hb;exact ⟨h1,h2,h3,h4,k.c0,k.c1,k.c2,k.c3,k.c4⟩
theorem zuf {A:Nat->Prop} {w W:World} {c0 c1 c2 c3 c4 c5:Value} {T:TypeId} {b off cp cq:Nat} {y z:Ex} {a2 a3:Option Addr} (hx:ExAt w A b off y a2 cp) (hz:ExAt w A b (off+5) z a3 cq) (hb:Below w.heap.size w W) (hk:W.heap[w.heap.size]? = some (.cells #[c0,c1,c2,c3,c4,c5] T (0,0))):W.cell? ⟨w.heap.size,1,none⟩=some (c1)/\W.cell? ⟨w.heap.size,2,none⟩=some (c2)/\W.cell? ⟨w.heap.size,3,none⟩=some (c3)/\W.cell? ⟨w.heap.size,4,none⟩=some (c4)/\W.cell? ⟨b,off,none⟩=some (.int .i64 y.op)/\W.cell? ⟨b,off+1,none⟩=some (.int .i64 y.n)/\W.cell? ⟨b,off+2,none⟩=some (.string y.mod)/\W.cell? ⟨b,off+3,none⟩=some (.string y.name)/\W.cell? ⟨b,off+4,none⟩=some (.slice a2 y.args.length cp)/\W.cell? ⟨b,off+5,none⟩=some (.int .i64 z.op)/\W.cell? ⟨b,off+6,none⟩=some (.int .i64 z.n)/\W.cell? ⟨b,off+7,none⟩=some (.string z.mod)/\W.cell? ⟨b,off+8,none⟩=some (.string z.name)/\W.cell? ⟨b,off+9,none⟩=some (.slice a3 z.args.length cq):=by
 obtain ⟨h0,h1,h2,h3,h4,h5,h6⟩:=zal hk;have k:=hx.later hb;have q:=hz.later hb;exact ⟨h1,h2,h3,h4,k.c0,k.c1,k.c2,k.c3,k.c4,q.c0,q.c1,q.c2,q.c3,q.c4⟩
theorem zxf (A:Nat->Prop) (m nm:ByteArray) (hm:m.size<=100) (hn:nm.size<=100) (hr:0<(refT m nm).length) (hrs:(strOf (showL (refT m nm))).size<=1000) (y:Ex) (hTy:Tx A y) (hs:(strOf (showL (tE y))).size<=1000000) (hp:0<(tE y).length) (b off cap:Nat) (a2:Option Addr) (cp:Nat) (ab:Option Addr) (cb:Nat) (ao:Option Addr) (co:Nat) (w:World) (hx:ExAt w A b off y a2 cp) :
 Calls Tryz.prog 123 #[.agg #[.int .i64 1,.string m,.string nm,.slice (some ⟨b,off,none⟩) 1 cap,.slice ab 0 cb,.slice ao 0 co]] w fun e w'=>e = .returned (.string (strOf (showL ((refT m nm++kTk tEq :: tE y)++[kTk tSem]))))/\Below w.heap.size w w':=by
 have HF:Hid (strOf (showL (refT m nm))++⟨#[32,61,32]⟩++strOf (showL (tE y))++⟨#[32,59]⟩=strOf (showL ((refT m nm++kTk tEq :: tE y)++[kTk tSem]))):=by
  show strOf (showL (refT m nm))++⟨#[32,61,32]⟩++strOf (showL (tE y))++⟨#[32,59]⟩=_
  have e:showL ((refT m nm++kTk tEq :: tE y)++[kTk tSem])=showL (refT m nm)++[32,61,32]++showL (tE y)++[32,59]:=by
   apply zdu
   simp [zcn,zbo,zdl,zd2,zbc hp,zbc hr]
  rw [e,← zad,← zad,← zad];rfl
 have HTy:=hid (fun (W:World) (h:ExAt W A b off y a2 cp)=>hTy a2 cp W h.args);have HX:=hid hx;clear hTy hx;have HR:=hid (fun W:World=>zgx m nm W hm hn);clear hm hn hp hr
 obtain ⟨W0,hW0⟩:∃ W0,W0=w.alloc (.cells #[.int .i64 1,.string m,.string nm,.slice (some ⟨b,off,none⟩) 1 cap,.slice ab 0 cb,.slice ao 0 co] 47):=⟨_,rfl⟩
 have hB0:Below w.heap.size w W0:=by rw [hW0];exact al1 _ _
 have hK0:W0.heap[w.heap.size]? = some (.cells #[.int .i64 1,.string m,.string nm,.slice (some ⟨b,off,none⟩) 1 cap,.slice ab 0 cb,.slice ao 0 co] 47 (0,0)):=by rw [hW0];exact heap_newP _ _
 generalize strOf (showL (refT m nm))=S1 at *;generalize strOf (showL (tE y))=S2 at *;go_enter Tryz.func123,Tryz.ntmps123;go_upto_region 3 with fail;rw [← hW0];have HB1:=hid (hB0.drew);have HK1:Hid (W0.drew.heap[w.heap.size]? = some (.cells #[.int .i64 1,.string m,.string nm,.slice (some ⟨b,off,none⟩) 1 cap,.slice ab 0 cb,.slice ao 0 co] 47 (0,0))):=hK0;have FF:=hid (zgf HX.out HB1.out HK1.out);clear hW0 hB0 hK0
 go_region_held (fun W=>W.cell? ⟨w.heap.size,1,none⟩=some (.string m)/\W.cell? ⟨w.heap.size,2,none⟩=some (.string nm)/\W.cell? ⟨w.heap.size,3,none⟩=some (.slice (some ⟨b,off,none⟩) 1 cap)/\W.cell? ⟨w.heap.size,4,none⟩=some (.slice ab 0 cb)/\W.cell? ⟨b,off,none⟩=some (.int .i64 y.op)/\W.cell? ⟨b,off+1,none⟩=some (.int .i64 y.n)/\W.cell? ⟨b,off+2,none⟩=some (.string y.mod)/\W.cell? ⟨b,off+3,none⟩=some (.string y.name)/\W.cell? ⟨b,off+4,none⟩=some (.slice a2 y.args.length cp)) (exact FF.out)
  (first
  | (go_at_call 135;refine (HR.out _).mono ?_;rintro e w9 ⟨rfl,rfl⟩)
  | (go_at_call_of 136 (Ex.op y);refine (HTy.out _ (HX.out.later HB1.out)).mono ?_;rintro e w2 ⟨rfl,hb⟩;have HB2:=hid (zab HB1.out hb);have HK2:=hid ((hb.block _ (zac HK1.out)).trans HK1.out);have FF:=hid (zgf HX.out HB2.out HK2.out);clear hb))
 all_goals
  go_wp2_with fail;go_ret;exact ⟨zbu HF.out,HB2.out⟩
theorem zzd (A:Nat->Prop) (m nm:ByteArray) (hm:m.size<=100) (hn:nm.size<=100) (hr:0<(refT m nm).length) (hrs:(strOf (showL (refT m nm))).size<=1000) (l:List Ex) (aa:Option Addr) (cap:Nat) (hs:(strOf (spc (commas (tEs l)))).size<=1000000000) (hC:∀ W,DAt W A aa l.length (zaw l)->Calls Tryz.prog 137 #[.slice aa l.length cap] W fun e w'=>e = .returned (.string (strOf (spc (commas (tEs l)))))/\Below W.heap.size W w') (ab:Option Addr) (cb:Nat) (ao:Option Addr) (co:Nat) (w:World) (hx:DAt w A aa l.length (zaw l)) :
 Calls Tryz.prog 123 #[.agg #[.int .i64 3,.string m,.string nm,.slice aa l.length cap,.slice ab 0 cb,.slice ao 0 co]] w fun e w'=>e = .returned (.string (strOf (showL ((refT m nm++kTk tLp :: (commas (tEs l)++[kTk tRp]))++[kTk tSem]))))/\Below w.heap.size w w':=by
 have HF:Hid (strOf (showL (refT m nm))++⟨#[32,40]⟩++strOf (spc (commas (tEs l)))++⟨#[32,41,32,59]⟩=strOf (showL ((refT m nm++kTk tLp :: (commas (tEs l)++[kTk tRp]))++[kTk tSem]))):=by
  show strOf (showL (refT m nm))++⟨#[32,40]⟩++strOf (spc (commas (tEs l)))++⟨#[32,41,32,59]⟩=_
  have e:showL ((refT m nm++kTk tLp :: (commas (tEs l)++[kTk tRp]))++[kTk tSem])=showL (refT m nm)++[32,40]++spc (commas (tEs l))++[32,41,32,59]:=by
   apply zdu
   simp [zcn,zbo,zdl,zd2,zbc hr]
  rw [e,← zad,← zad,← zad];rfl
 have HC:=hid hC;have HX:=hid hx;have HR:=hid (fun W:World=>zgx m nm W hm hn);clear hm hn hr hC hx
 obtain ⟨W0,hW0⟩:∃ W0,W0=w.alloc (.cells #[.int .i64 3,.string m,.string nm,.slice aa l.length cap,.slice ab 0 cb,.slice ao 0 co] 47):=⟨_,rfl⟩
 have hB0:Below w.heap.size w W0:=by rw [hW0];exact al1 _ _
 have hK0:W0.heap[w.heap.size]? = some (.cells #[.int .i64 3,.string m,.string nm,.slice aa l.length cap,.slice ab 0 cb,.slice ao 0 co] 47 (0,0)):=by rw [hW0];exact heap_newP _ _
 generalize strOf (showL (refT m nm))=S1 at *;generalize strOf (spc (commas (tEs l)))=S2 at *;go_enter Tryz.func123,Tryz.ntmps123;go_upto_region 7 with fail;rw [← hW0];have HB1:=hid (hB0.drew);have HK1:Hid (W0.drew.heap[w.heap.size]? = some (.cells #[.int .i64 3,.string m,.string nm,.slice aa l.length cap,.slice ab 0 cb,.slice ao 0 co] 47 (0,0))):=hK0;have FF:=hid (zue HK1.out);clear hW0 hB0 hK0
 go_region_held (fun W=>W.cell? ⟨w.heap.size,1,none⟩=some (.string m)/\W.cell? ⟨w.heap.size,2,none⟩=some (.string nm)/\W.cell? ⟨w.heap.size,3,none⟩=some (.slice aa l.length cap)/\W.cell? ⟨w.heap.size,4,none⟩=some (.slice ab 0 cb)) (exact FF.out)
  (first
  | (go_at_call 135;refine (HR.out _).mono ?_;rintro e w9 ⟨rfl,rfl⟩)
  | (go_at_call 137;refine (HC.out _ (HX.out.later HB1.out)).mono ?_;rintro e w2 ⟨rfl,hb⟩;have HB2:=hid (zab HB1.out hb);have HK2:=hid ((hb.block _ (zac HK1.out)).trans HK1.out);have FF:=hid (zue HK2.out);clear hb))
 all_goals
  go_wp2_with fail;go_ret;exact ⟨zbu HF.out,HB2.out⟩
theorem zpk (A:Nat->Prop) (y:Ex) (hTy:Tx A y) (hs:(strOf (showL (tE y))).size<=1000000) (hp:0<(tE y).length) (b off cap:Nat) (a2:Option Addr) (cp:Nat) (ab:Option Addr) (cb:Nat) (ao:Option Addr) (co:Nat) (w:World) (hx:ExAt w A b off y a2 cp) :
 Calls Tryz.prog 123 #[.agg #[.int .i64 6,.string ⟨#[]⟩,.string ⟨#[]⟩,.slice (some ⟨b,off,none⟩) 1 cap,.slice ab 0 cb,.slice ao 0 co]] w fun e w'=>e = .returned (.string (strOf (showL ((kTk tReturn :: tE y)++[kTk tSem]))))/\Below w.heap.size w w':=by
 have HF:Hid ((⟨#[114,101,116,117,114,110,32]⟩:ByteArray)++strOf (showL (tE y))++⟨#[32,59]⟩=strOf (showL ((kTk tReturn :: tE y)++[kTk tSem]))):=by
  show (⟨#[114,101,116,117,114,110,32]⟩:ByteArray)++strOf (showL (tE y))++⟨#[32,59]⟩=_
  have e:showL ((kTk tReturn :: tE y)++[kTk tSem])=([114,101,116,117,114,110,32]:List UInt8)++showL (tE y)++[32,59]:=by
   apply zdu
   simp [zcn,zbo,zdl,zd2,zbc hp]
  rw [e,← zad,← zad];rfl
 have hc0:=hx.c0;have hc1:=hx.c1;have hc2:=hx.c2;have hc3:=hx.c3;have hc4:=hx.c4;have hlb:=hx.lt;have HTy:=hid (fun (W:World) (h:ExAt W A b off y a2 cp)=>hTy a2 cp W h.args);have HX:=hid hx;clear hTy hx;clear hp;generalize strOf (showL (tE y))=S1 at *;go_enter Tryz.func123,Tryz.ntmps123;go_wp2_with fail;refine (HTy.out _ (HX.out.later (al1 _ _))).mono ?_;rintro e w2 ⟨rfl,hb2⟩;go_wp2_with fail;go_ret;exact ⟨zbu HF.out,zab (al1 _ _) hb2⟩
theorem zxg (A:Nat->Prop) (y:Ex) (hTy:Tx A y) (hs:(strOf (showL (tE y))).size<=1000000) (hp:0<(tE y).length) (b off cap:Nat) (a2:Option Addr) (cp:Nat) (ab:Option Addr) (cb:Nat) (ao:Option Addr) (co:Nat) (w:World) (hx:ExAt w A b off y a2 cp) :
 Calls Tryz.prog 123 #[.agg #[.int .i64 7,.string ⟨#[]⟩,.string ⟨#[]⟩,.slice (some ⟨b,off,none⟩) 1 cap,.slice ab 0 cb,.slice ao 0 co]] w fun e w'=>e = .returned (.string (strOf (showL ((kTk tOut :: tE y)++[kTk tSem]))))/\Below w.heap.size w w':=by
 have HF:Hid ((⟨#[111,117,116,32]⟩:ByteArray)++strOf (showL (tE y))++⟨#[32,59]⟩=strOf (showL ((kTk tOut :: tE y)++[kTk tSem]))):=by
  show (⟨#[111,117,116,32]⟩:ByteArray)++strOf (showL (tE y))++⟨#[32,59]⟩=_
  have e:showL ((kTk tOut :: tE y)++[kTk tSem])=([111,117,116,32]:List UInt8)++showL (tE y)++[32,59]:=by
   apply zdu
   simp [zcn,zbo,zdl,zd2,zbc hp]
  rw [e,← zad,← zad];rfl
 have hc0:=hx.c0;have hc1:=hx.c1;have hc2:=hx.c2;have hc3:=hx.c3;have hc4:=hx.c4;have hlb:=hx.lt;have HTy:=hid (fun (W:World) (h:ExAt W A b off y a2 cp)=>hTy a2 cp W h.args);have HX:=hid hx;clear hTy hx;clear hp;generalize strOf (showL (tE y))=S1 at *;go_enter Tryz.func123,Tryz.ntmps123;go_wp2_with fail;refine (HTy.out _ (HX.out.later (al1 _ _))).mono ?_;rintro e w2 ⟨rfl,hb2⟩;go_wp2_with fail;go_ret;exact ⟨zbu HF.out,zab (al1 _ _) hb2⟩
end Go.Proofs.YtcekpobmbmnplaaGreatDoor
