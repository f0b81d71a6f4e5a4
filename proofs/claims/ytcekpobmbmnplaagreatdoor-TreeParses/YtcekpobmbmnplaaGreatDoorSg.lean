/-
  The writer: statements.
-/
import Derived.Test.YtcekpobmbmnplaaGreatDoorSe
namespace Go.Proofs.YtcekpobmbmnplaaGreatDoor
set_option maxRecDepth 100000
set_option maxHeartbeats 1600000
open Go.RowKit Go.Shelf
theorem zjr.start (ts:List Tk):zjr [] ts ts:=⟨Or.inl (by simp),.nil⟩
theorem zjr.len {d ts ts':List Tk} (h:zjr d ts ts'):ts'.length<=ts.length+d.length:=h.1.len
theorem zjr.trans {d d' ts t1 t2:List Tk} (h:zjr d ts t1) (k:Cut d' t1 t2) (r:zam d'):zjr (d++d') ts t2:=⟨h.1.trans2 k h.2 r,h.2.append r⟩
theorem z2b (m nm:ByteArray) (x:Ex) (hX:WrE x) (rx:zam (tE x)) (bd ot:List St) (hWB:WrB bd) (rb:zam (brT (tSs bd))) (b:Nat) (ts:List Tk) (v0:Value) (W:World) (a1 a2 a3:Option Addr) (c1 c2 c3:Nat) (h:Wr b ts v0 W) (hA:DAt W (Off b v0) a1 1 (zaw [x])) (hB:DAt W (Off b v0) a2 bd.length (za0 bd)) (hO:DAt W (Off b v0) a3 ot.length (za0 ot)) (hl:ts.length+(tE x).length+(tSs bd).length+3<=4000000000000) :
 Calls Tryz.prog 101 #[.pointer (some ⟨b,0,none⟩),.agg #[.int .i64 5,.string m,.string nm,.slice a1 1 c1,.slice a2 bd.length c2,.slice a3 ot.length c3]] W (zqn b ts v0 W (kTk tWhile :: (tE x++brT (tSs bd)))):=by
 have HE:Hid (kTk tWhile :: (tE x++brT (tSs bd))=[pTk tWhile]++tE x++brT (tSs bd)):=by
  show _=_
  rw [pk (t:=tWhile) (by decide)];simp
 have HX:=hid hX;have HB:=hid hWB;have HRx:=hid rx;have HRb:=hid rb;clear hX hWB rx rb
 obtain ⟨W0,hW0⟩:∃ W0,W0=W.alloc (.cells #[.int .i64 5,.string m,.string nm,.slice a1 1 c1,.slice a2 bd.length c2,.slice a3 ot.length c3] 47):=⟨_,rfl⟩
 obtain ⟨x0_0,x1_0,x2_0,x3_0,x4_0,x5_0⟩:=zwk W (.int .i64 5) (.string m) (.string nm) (.slice a1 1 c1) (.slice a2 bd.length c2) (.slice a3 ot.length c3) 47;rw [← hW0] at x0_0 x1_0 x2_0 x3_0 x4_0 x5_0
 have H0:Hid (Wr b ts v0 W0):=by rw [hW0];exact h.alloc _
 have C0:=hid (zjr.start ts)
 have K0:Hid (WK b v0 v0 W W0):=by rw [hW0];exact WK.of_below (al1 _ _) b v0
 have hz0:W0.heap.size=W.heap.size+1:=by rw [hW0];simp
 have hlt0:b<W0.heap.size:=H0.out.lt;have hf0:Hid (Off b v0 W.heap.size):=h.own (Nat.le_refl _)
 have hx0:W.heap.size<W0.heap.size:=by omega
 have DA0:Hid (DAt W0 (Off b v0) a1 1 (zaw [x])):=by rw [hW0];exact hA.moves (Moves.of_below (al1 _ _) _)
 have DB0:Hid (DAt W0 (Off b v0) a2 bd.length (za0 bd)):=by rw [hW0];exact hB.moves (Moves.of_below (al1 _ _) _)
 have DO0:Hid (DAt W0 (Off b v0) a3 ot.length (za0 ot)):=by rw [hW0];exact hO.moves (Moves.of_below (al1 _ _) _)
 clear h hA hB hO;generalize hkb:W.heap.size=kb at *;go_enter Tryz.func101,Tryz.ntmps101;go_upto_region 1 with fail;rw [← hW0];clear hW0;go_wp2_with fail;refine (zg7 b _ tWhile _ v0 W0 (by omega) H0.out (by decide) (by omega)).mono ?_;rintro e W1 ⟨v1,rfl,hh,kk⟩
 obtain ⟨T1,hT1⟩:∃ T,T=ts++[pTk tWhile]:=⟨_,rfl⟩
 rw [← hT1] at hh;have C1:Hid (zjr ([pTk tWhile]) ts T1):=C0.out.trans (Or.inl hT1) (zgs (by decide));clear hT1;have H1:=hid hh;have K1:=hid (K0.out.trans kk);have hlt1:=hh.lt;have hz1:=kk.size;have hL1:=C1.out.len
 try simp at hL1
 have DA1:=hid (DA0.out.moves kk.moves);have DB1:=hid (DB0.out.moves kk.moves);have DO1:=hid (DO0.out.moves kk.moves);have x0_1:=(kk.cell (off:=0) hx0 hf0.out).trans x0_0;have x1_1:=(kk.cell (off:=1) hx0 hf0.out).trans x1_0;have x2_1:=(kk.cell (off:=2) hx0 hf0.out).trans x2_0;have x3_1:=(kk.cell (off:=3) hx0 hf0.out).trans x3_0;have x4_1:=(kk.cell (off:=4) hx0 hf0.out).trans x4_0;have x5_1:=(kk.cell (off:=5) hx0 hf0.out).trans x5_0;have hf1:=hid (kk.off hx0 hf0.out);have hx1:kb<W1.heap.size:=Nat.lt_of_lt_of_le hx0 kk.size;clear hh kk;clear x0_0 x1_0 x2_0 x3_0 x4_0 x5_0;obtain ⟨eb0,eo0,ea0,ec0,he0,hx0'⟩:=DA1.out.ex (l:=[x]) 0 (by simp);subst he0;have hx0:ExAt W1 (Off b v1) eb0 (eo0+0*5) x ea0 ec0:=hx0';have q00:=hx0.c0;have q01:=hx0.c1;have q02:=hx0.c2;have q03:=hx0.c3;have q04:=hx0.c4;rw [Nat.zero_mul,Nat.add_zero] at q00 q01 q02 q03 q04
 have hle0:=hx0.lt;have HEx0:=hid hx0;clear hx0 hx0';go_wp2_with fail;refine (HX.out b _ v1 W1 ea0 ec0 H1.out HEx0.out.args HEx0.out.wm HEx0.out.wna (by omega)).mono ?_;rintro e W2 ⟨v2,rfl,hh,kk⟩
 obtain ⟨T2,hT2⟩:∃ T,T=T1++tE x:=⟨_,rfl⟩
 rw [← hT2] at hh;have C2:Hid (zjr ([pTk tWhile]++tE x) ts T2):=C1.out.trans (Or.inl hT2) HRx.out;clear hT2;have H2:=hid hh;have K2:=hid (K1.out.trans kk);have hlt2:=hh.lt;have hz2:=kk.size;have hL2:=C2.out.len
 try simp at hL2
 have DA2:=hid (DA1.out.moves kk.moves);have DB2:=hid (DB1.out.moves kk.moves);have DO2:=hid (DO1.out.moves kk.moves);have x0_2:=(kk.cell (off:=0) hx1 hf1.out).trans x0_1;have x1_2:=(kk.cell (off:=1) hx1 hf1.out).trans x1_1;have x2_2:=(kk.cell (off:=2) hx1 hf1.out).trans x2_1;have x3_2:=(kk.cell (off:=3) hx1 hf1.out).trans x3_1;have x4_2:=(kk.cell (off:=4) hx1 hf1.out).trans x4_1;have x5_2:=(kk.cell (off:=5) hx1 hf1.out).trans x5_1;have hf2:=hid (kk.off hx1 hf1.out);have hx2:kb<W2.heap.size:=Nat.lt_of_lt_of_le hx1 kk.size;clear hh kk;clear x0_1 x1_1 x2_1 x3_1 x4_1 x5_1;go_wp2_with fail;refine (HB.out b _ v2 W2 a2 c2 H2.out DB2.out (by unfold brT;simp only [List.length_append,List.length_cons,List.length_nil];omega)).mono ?_;rintro e W3 ⟨T3,v3,rfl,hh,kk,hc⟩;have C3:Hid (zjr ([pTk tWhile]++tE x++brT (tSs bd)) ts T3):=C2.out.trans hc HRb.out
 clear hc;have H3:=hid hh;have K3:=hid (K2.out.trans kk);have hlt3:=hh.lt;have hz3:=kk.size;have hL3:=C3.out.len
 try simp [brT] at hL3
 have DA3:=hid (DA2.out.moves kk.moves);have DB3:=hid (DB2.out.moves kk.moves);have DO3:=hid (DO2.out.moves kk.moves);have x0_3:=(kk.cell (off:=0) hx2 hf2.out).trans x0_2;have x1_3:=(kk.cell (off:=1) hx2 hf2.out).trans x1_2;have x2_3:=(kk.cell (off:=2) hx2 hf2.out).trans x2_2;have x3_3:=(kk.cell (off:=3) hx2 hf2.out).trans x3_2;have x4_3:=(kk.cell (off:=4) hx2 hf2.out).trans x4_2;have x5_3:=(kk.cell (off:=5) hx2 hf2.out).trans x5_2;have hf3:=hid (kk.off hx2 hf2.out);have hx3:kb<W3.heap.size:=Nat.lt_of_lt_of_le hx2 kk.size;clear hh kk;clear x0_2 x1_2 x2_2 x3_2 x4_2 x5_2;go_wp2_with fail;go_end0;exact ⟨T3,v3,rfl,H3.out,K3.out,by rw [HE.out];exact C3.out.1⟩
theorem z0e (m nm:ByteArray) (x:Ex) (hX:WrE x) (rx:zam (tE x)) (bd:List St) (hWB:WrB bd) (rb:zam (brT (tSs bd))) (b:Nat) (ts:List Tk) (v0:Value) (W:World) (a1 a2 a3:Option Addr) (c1 c2 c3:Nat) (h:Wr b ts v0 W) (hA:DAt W (Off b v0) a1 1 (zaw [x])) (hB:DAt W (Off b v0) a2 bd.length (za0 bd)) (hl:ts.length+(tE x).length+(tSs bd).length+3<=4000000000000) :
 Calls Tryz.prog 101 #[.pointer (some ⟨b,0,none⟩),.agg #[.int .i64 4,.string m,.string nm,.slice a1 1 c1,.slice a2 bd.length c2,.slice a3 0 c3]] W (zqn b ts v0 W (kTk tIf :: (tE x++brT (tSs bd)))):=by
 have HE:Hid (kTk tIf :: (tE x++brT (tSs bd))=[pTk tIf]++tE x++brT (tSs bd)):=by
  show _=_
  rw [pk (t:=tIf) (by decide)];simp
 have HX:=hid hX;have HB:=hid hWB;have HRx:=hid rx;have HRb:=hid rb;clear hX hWB rx rb
 obtain ⟨W0,hW0⟩:∃ W0,W0=W.alloc (.cells #[.int .i64 4,.string m,.string nm,.slice a1 1 c1,.slice a2 bd.length c2,.slice a3 0 c3] 47):=⟨_,rfl⟩
 obtain ⟨x0_0,x1_0,x2_0,x3_0,x4_0,x5_0⟩:=zwk W (.int .i64 4) (.string m) (.string nm) (.slice a1 1 c1) (.slice a2 bd.length c2) (.slice a3 0 c3) 47;rw [← hW0] at x0_0 x1_0 x2_0 x3_0 x4_0 x5_0
 have H0:Hid (Wr b ts v0 W0):=by rw [hW0];exact h.alloc _
 have C0:=hid (zjr.start ts)
 have K0:Hid (WK b v0 v0 W W0):=by rw [hW0];exact WK.of_below (al1 _ _) b v0
 have hz0:W0.heap.size=W.heap.size+1:=by rw [hW0];simp
 have hlt0:b<W0.heap.size:=H0.out.lt;have hf0:Hid (Off b v0 W.heap.size):=h.own (Nat.le_refl _)
 have hx0:W.heap.size<W0.heap.size:=by omega
 have DA0:Hid (DAt W0 (Off b v0) a1 1 (zaw [x])):=by rw [hW0];exact hA.moves (Moves.of_below (al1 _ _) _)
 have DB0:Hid (DAt W0 (Off b v0) a2 bd.length (za0 bd)):=by rw [hW0];exact hB.moves (Moves.of_below (al1 _ _) _)
 clear h hA hB;generalize hkb:W.heap.size=kb at *;go_enter Tryz.func101,Tryz.ntmps101;go_upto_region 1 with fail;rw [← hW0];clear hW0;go_wp2_with fail;refine (zg7 b _ tIf _ v0 W0 (by omega) H0.out (by decide) (by omega)).mono ?_;rintro e W1 ⟨v1,rfl,hh,kk⟩
 obtain ⟨T1,hT1⟩:∃ T,T=ts++[pTk tIf]:=⟨_,rfl⟩
 rw [← hT1] at hh;have C1:Hid (zjr ([pTk tIf]) ts T1):=C0.out.trans (Or.inl hT1) (zgs (by decide));clear hT1;have H1:=hid hh;have K1:=hid (K0.out.trans kk);have hlt1:=hh.lt;have hz1:=kk.size;have hL1:=C1.out.len
 try simp at hL1
 have DA1:=hid (DA0.out.moves kk.moves);have DB1:=hid (DB0.out.moves kk.moves);have x0_1:=(kk.cell (off:=0) hx0 hf0.out).trans x0_0;have x1_1:=(kk.cell (off:=1) hx0 hf0.out).trans x1_0;have x2_1:=(kk.cell (off:=2) hx0 hf0.out).trans x2_0;have x3_1:=(kk.cell (off:=3) hx0 hf0.out).trans x3_0;have x4_1:=(kk.cell (off:=4) hx0 hf0.out).trans x4_0;have x5_1:=(kk.cell (off:=5) hx0 hf0.out).trans x5_0;have hf1:=hid (kk.off hx0 hf0.out);have hx1:kb<W1.heap.size:=Nat.lt_of_lt_of_le hx0 kk.size;clear hh kk;clear x0_0 x1_0 x2_0 x3_0 x4_0 x5_0;obtain ⟨eb0,eo0,ea0,ec0,he0,hx0'⟩:=DA1.out.ex (l:=[x]) 0 (by simp);subst he0;have hx0:ExAt W1 (Off b v1) eb0 (eo0+0*5) x ea0 ec0:=hx0';have q00:=hx0.c0;have q01:=hx0.c1;have q02:=hx0.c2;have q03:=hx0.c3;have q04:=hx0.c4;rw [Nat.zero_mul,Nat.add_zero] at q00 q01 q02 q03 q04;have hle0:=hx0.lt
 have HEx0:=hid hx0;clear hx0 hx0';go_wp2_with fail;refine (HX.out b _ v1 W1 ea0 ec0 H1.out HEx0.out.args HEx0.out.wm HEx0.out.wna (by omega)).mono ?_;rintro e W2 ⟨v2,rfl,hh,kk⟩
 obtain ⟨T2,hT2⟩:∃ T,T=T1++tE x:=⟨_,rfl⟩
 rw [← hT2] at hh;have C2:Hid (zjr ([pTk tIf]++tE x) ts T2):=C1.out.trans (Or.inl hT2) HRx.out;clear hT2;have H2:=hid hh;have K2:=hid (K1.out.trans kk);have hlt2:=hh.lt;have hz2:=kk.size;have hL2:=C2.out.len
 try simp at hL2
 have DA2:=hid (DA1.out.moves kk.moves);have DB2:=hid (DB1.out.moves kk.moves);have x0_2:=(kk.cell (off:=0) hx1 hf1.out).trans x0_1;have x1_2:=(kk.cell (off:=1) hx1 hf1.out).trans x1_1;have x2_2:=(kk.cell (off:=2) hx1 hf1.out).trans x2_1;have x3_2:=(kk.cell (off:=3) hx1 hf1.out).trans x3_1;have x4_2:=(kk.cell (off:=4) hx1 hf1.out).trans x4_1;have x5_2:=(kk.cell (off:=5) hx1 hf1.out).trans x5_1;have hf2:=hid (kk.off hx1 hf1.out);have hx2:kb<W2.heap.size:=Nat.lt_of_lt_of_le hx1 kk.size;clear hh kk;clear x0_1 x1_1 x2_1 x3_1 x4_1 x5_1;go_wp2_with fail;refine (HB.out b _ v2 W2 a2 c2 H2.out DB2.out (by unfold brT;simp only [List.length_append,List.length_cons,List.length_nil];omega)).mono ?_;rintro e W3 ⟨T3,v3,rfl,hh,kk,hc⟩;have C3:Hid (zjr ([pTk tIf]++tE x++brT (tSs bd)) ts T3):=C2.out.trans hc HRb.out;clear hc;have H3:=hid hh
 have K3:=hid (K2.out.trans kk);have hlt3:=hh.lt;have hz3:=kk.size;have hL3:=C3.out.len
 try simp [brT] at hL3
 have DA3:=hid (DA2.out.moves kk.moves);have DB3:=hid (DB2.out.moves kk.moves);have x0_3:=(kk.cell (off:=0) hx2 hf2.out).trans x0_2;have x1_3:=(kk.cell (off:=1) hx2 hf2.out).trans x1_2;have x2_3:=(kk.cell (off:=2) hx2 hf2.out).trans x2_2;have x3_3:=(kk.cell (off:=3) hx2 hf2.out).trans x3_2;have x4_3:=(kk.cell (off:=4) hx2 hf2.out).trans x4_2;have x5_3:=(kk.cell (off:=5) hx2 hf2.out).trans x5_2;have hf3:=hid (kk.off hx2 hf2.out);have hx3:kb<W3.heap.size:=Nat.lt_of_lt_of_le hx2 kk.size;clear hh kk;clear x0_2 x1_2 x2_2 x3_2 x4_2 x5_2;go_wp2_with fail;go_end0;exact ⟨T3,v3,rfl,H3.out,K3.out,by rw [HE.out];exact C3.out.1⟩
theorem z0f (m nm:ByteArray) (x:Ex) (hX:WrE x) (rx:zam (tE x)) (bd ot:List St) (hWB:WrB bd) (rb:zam (brT (tSs bd))) (hOb:WrB ot) (ro:zam (brT (tSs ot))) (b:Nat) (ts:List Tk) (v0:Value) (W:World) (a1 a2 a3:Option Addr) (c1 c2 c3:Nat) (h:Wr b ts v0 W) (hA:DAt W (Off b v0) a1 1 (zaw [x])) (hB:DAt W (Off b v0) a2 bd.length (za0 bd)) (hO:DAt W (Off b v0) a3 ot.length (za0 ot)) (hot:0<ot.length) (hl:ts.length+(tE x).length+(tSs bd).length+(tSs ot).length+6<=4000000000000) :
 Calls Tryz.prog 101 #[.pointer (some ⟨b,0,none⟩),.agg #[.int .i64 4,.string m,.string nm,.slice a1 1 c1,.slice a2 bd.length c2,.slice a3 ot.length c3]] W (zqn b ts v0 W (kTk tIf :: (tE x++(brT (tSs bd)++kTk tElse :: brT (tSs ot))))):=by
 have HE:Hid (kTk tIf :: (tE x++(brT (tSs bd)++kTk tElse :: brT (tSs ot)))=[pTk tIf]++tE x++brT (tSs bd)++[pTk tElse]++brT (tSs ot)):=by
  show _=_
  rw [pk (t:=tIf) (by decide),pk (t:=tElse) (by decide)];simp
 have HX:=hid hX;have HB:=hid hWB;have HRx:=hid rx;have HRb:=hid rb;clear hX hWB rx rb;have HO:=hid hOb;have HRo:=hid ro;clear hOb ro
 obtain ⟨W0,hW0⟩:∃ W0,W0=W.alloc (.cells #[.int .i64 4,.string m,.string nm,.slice a1 1 c1,.slice a2 bd.length c2,.slice a3 ot.length c3] 47):=⟨_,rfl⟩
 obtain ⟨x0_0,x1_0,x2_0,x3_0,x4_0,x5_0⟩:=zwk W (.int .i64 4) (.string m) (.string nm) (.slice a1 1 c1) (.slice a2 bd.length c2) (.slice a3 ot.length c3) 47;rw [← hW0] at x0_0 x1_0 x2_0 x3_0 x4_0 x5_0
 have H0:Hid (Wr b ts v0 W0):=by rw [hW0];exact h.alloc _
 have C0:=hid (zjr.start ts)
 have K0:Hid (WK b v0 v0 W W0):=by rw [hW0];exact WK.of_below (al1 _ _) b v0
 have hz0:W0.heap.size=W.heap.size+1:=by rw [hW0];simp
 have hlt0:b<W0.heap.size:=H0.out.lt;have hf0:Hid (Off b v0 W.heap.size):=h.own (Nat.le_refl _)
 have hx0:W.heap.size<W0.heap.size:=by omega
 have DA0:Hid (DAt W0 (Off b v0) a1 1 (zaw [x])):=by rw [hW0];exact hA.moves (Moves.of_below (al1 _ _) _)
 have DB0:Hid (DAt W0 (Off b v0) a2 bd.length (za0 bd)):=by rw [hW0];exact hB.moves (Moves.of_below (al1 _ _) _)
 have DO0:Hid (DAt W0 (Off b v0) a3 ot.length (za0 ot)):=by rw [hW0];exact hO.moves (Moves.of_below (al1 _ _) _)
 clear h hA hB hO;generalize hkb:W.heap.size=kb at *;go_enter Tryz.func101,Tryz.ntmps101;go_upto_region 1 with fail;rw [← hW0];clear hW0;go_wp2_with fail;refine (zg7 b _ tIf _ v0 W0 (by omega) H0.out (by decide) (by omega)).mono ?_;rintro e W1 ⟨v1,rfl,hh,kk⟩
 obtain ⟨T1,hT1⟩:∃ T,T=ts++[pTk tIf]:=⟨_,rfl⟩
 rw [← hT1] at hh;have C1:Hid (zjr ([pTk tIf]) ts T1):=C0.out.trans (Or.inl hT1) (zgs (by decide));clear hT1;have H1:=hid hh;have K1:=hid (K0.out.trans kk);have hlt1:=hh.lt;have hz1:=kk.size;have hL1:=C1.out.len
 try simp at hL1
 have DA1:=hid (DA0.out.moves kk.moves);have DB1:=hid (DB0.out.moves kk.moves);have DO1:=hid (DO0.out.moves kk.moves);have x0_1:=(kk.cell (off:=0) hx0 hf0.out).trans x0_0;have x1_1:=(kk.cell (off:=1) hx0 hf0.out).trans x1_0;have x2_1:=(kk.cell (off:=2) hx0 hf0.out).trans x2_0;have x3_1:=(kk.cell (off:=3) hx0 hf0.out).trans x3_0;have x4_1:=(kk.cell (off:=4) hx0 hf0.out).trans x4_0;have x5_1:=(kk.cell (off:=5) hx0 hf0.out).trans x5_0;have hf1:=hid (kk.off hx0 hf0.out);have hx1:kb<W1.heap.size:=Nat.lt_of_lt_of_le hx0 kk.size;clear hh kk;clear x0_0 x1_0 x2_0 x3_0 x4_0 x5_0;obtain ⟨eb0,eo0,ea0,ec0,he0,hx0'⟩:=DA1.out.ex (l:=[x]) 0 (by simp);subst he0;have hx0:ExAt W1 (Off b v1) eb0 (eo0+0*5) x ea0 ec0:=hx0';have q00:=hx0.c0;have q01:=hx0.c1;have q02:=hx0.c2;have q03:=hx0.c3;have q04:=hx0.c4;rw [Nat.zero_mul,Nat.add_zero] at q00 q01 q02 q03 q04
 have hle0:=hx0.lt;have HEx0:=hid hx0;clear hx0 hx0';go_wp2_with fail;refine (HX.out b _ v1 W1 ea0 ec0 H1.out HEx0.out.args HEx0.out.wm HEx0.out.wna (by omega)).mono ?_;rintro e W2 ⟨v2,rfl,hh,kk⟩
 obtain ⟨T2,hT2⟩:∃ T,T=T1++tE x:=⟨_,rfl⟩
 rw [← hT2] at hh;have C2:Hid (zjr ([pTk tIf]++tE x) ts T2):=C1.out.trans (Or.inl hT2) HRx.out;clear hT2;have H2:=hid hh;have K2:=hid (K1.out.trans kk);have hlt2:=hh.lt;have hz2:=kk.size;have hL2:=C2.out.len
 try simp at hL2
 have DA2:=hid (DA1.out.moves kk.moves);have DB2:=hid (DB1.out.moves kk.moves);have DO2:=hid (DO1.out.moves kk.moves);have x0_2:=(kk.cell (off:=0) hx1 hf1.out).trans x0_1;have x1_2:=(kk.cell (off:=1) hx1 hf1.out).trans x1_1;have x2_2:=(kk.cell (off:=2) hx1 hf1.out).trans x2_1;have x3_2:=(kk.cell (off:=3) hx1 hf1.out).trans x3_1;have x4_2:=(kk.cell (off:=4) hx1 hf1.out).trans x4_1;have x5_2:=(kk.cell (off:=5) hx1 hf1.out).trans x5_1;have hf2:=hid (kk.off hx1 hf1.out);have hx2:kb<W2.heap.size:=Nat.lt_of_lt_of_le hx1 kk.size;clear hh kk;clear x0_1 x1_1 x2_1 x3_1 x4_1 x5_1;go_wp2_with fail;refine (HB.out b _ v2 W2 a2 c2 H2.out DB2.out (by unfold brT;simp only [List.length_append,List.length_cons,List.length_nil];omega)).mono ?_;rintro e W3 ⟨T3,v3,rfl,hh,kk,hc⟩;have C3:Hid (zjr ([pTk tIf]++tE x++brT (tSs bd)) ts T3):=C2.out.trans hc HRb.out
 clear hc;have H3:=hid hh;have K3:=hid (K2.out.trans kk);have hlt3:=hh.lt;have hz3:=kk.size;have hL3:=C3.out.len
 try simp [brT] at hL3
 have DA3:=hid (DA2.out.moves kk.moves);have DB3:=hid (DB2.out.moves kk.moves);have DO3:=hid (DO2.out.moves kk.moves);have x0_3:=(kk.cell (off:=0) hx2 hf2.out).trans x0_2;have x1_3:=(kk.cell (off:=1) hx2 hf2.out).trans x1_2;have x2_3:=(kk.cell (off:=2) hx2 hf2.out).trans x2_2;have x3_3:=(kk.cell (off:=3) hx2 hf2.out).trans x3_2;have x4_3:=(kk.cell (off:=4) hx2 hf2.out).trans x4_2;have x5_3:=(kk.cell (off:=5) hx2 hf2.out).trans x5_2;have hf3:=hid (kk.off hx2 hf2.out);have hx3:kb<W3.heap.size:=Nat.lt_of_lt_of_le hx2 kk.size;clear hh kk;clear x0_2 x1_2 x2_2 x3_2 x4_2 x5_2;go_wp2_with fail;refine (zg7 b _ tElse _ v3 W3 (by omega) H3.out (by decide) (by omega)).mono ?_;rintro e W4 ⟨v4,rfl,hh,kk⟩
 obtain ⟨T4,hT4⟩:∃ T,T=T3++[pTk tElse]:=⟨_,rfl⟩
 rw [← hT4] at hh;have C4:Hid (zjr ([pTk tIf]++tE x++brT (tSs bd)++[pTk tElse]) ts T4):=C3.out.trans (Or.inl hT4) (zgs (by decide));clear hT4;have H4:=hid hh;have K4:=hid (K3.out.trans kk);have hlt4:=hh.lt;have hz4:=kk.size;have hL4:=C4.out.len
 try simp [brT] at hL4
 have DA4:=hid (DA3.out.moves kk.moves);have DB4:=hid (DB3.out.moves kk.moves);have DO4:=hid (DO3.out.moves kk.moves);have x0_4:=(kk.cell (off:=0) hx3 hf3.out).trans x0_3;have x1_4:=(kk.cell (off:=1) hx3 hf3.out).trans x1_3;have x2_4:=(kk.cell (off:=2) hx3 hf3.out).trans x2_3;have x3_4:=(kk.cell (off:=3) hx3 hf3.out).trans x3_3;have x4_4:=(kk.cell (off:=4) hx3 hf3.out).trans x4_3;have x5_4:=(kk.cell (off:=5) hx3 hf3.out).trans x5_3;have hf4:=hid (kk.off hx3 hf3.out);have hx4:kb<W4.heap.size:=Nat.lt_of_lt_of_le hx3 kk.size;clear hh kk;clear x0_3 x1_3 x2_3 x3_3 x4_3 x5_3;go_wp2_with fail;refine (HO.out b _ v4 W4 a3 c3 H4.out DO4.out (by unfold brT;simp only [List.length_append,List.length_cons,List.length_nil];omega)).mono ?_;rintro e W5 ⟨T5,v5,rfl,hh,kk,hc⟩;have C5:Hid (zjr ([pTk tIf]++tE x++brT (tSs bd)++[pTk tElse]++brT (tSs ot)) ts T5):=C4.out.trans hc HRo.out
 clear hc;have H5:=hid hh;have K5:=hid (K4.out.trans kk);have hlt5:=hh.lt;have hz5:=kk.size;have hL5:=C5.out.len
 try simp [brT] at hL5
 have DA5:=hid (DA4.out.moves kk.moves);have DB5:=hid (DB4.out.moves kk.moves);have DO5:=hid (DO4.out.moves kk.moves);have x0_5:=(kk.cell (off:=0) hx4 hf4.out).trans x0_4;have x1_5:=(kk.cell (off:=1) hx4 hf4.out).trans x1_4;have x2_5:=(kk.cell (off:=2) hx4 hf4.out).trans x2_4;have x3_5:=(kk.cell (off:=3) hx4 hf4.out).trans x3_4;have x4_5:=(kk.cell (off:=4) hx4 hf4.out).trans x4_4;have x5_5:=(kk.cell (off:=5) hx4 hf4.out).trans x5_4;have hf5:=hid (kk.off hx4 hf4.out);have hx5:kb<W5.heap.size:=Nat.lt_of_lt_of_le hx4 kk.size;clear hh kk;clear x0_4 x1_4 x2_4 x3_4 x4_4 x5_4;go_wp2_with fail;go_end0;exact ⟨T5,v5,rfl,H5.out,K5.out,by rw [HE.out];exact C5.out.1⟩
theorem z0g (op:Int) (m nm:ByteArray) (args:List Ex) (vb vo:Value) (h4:(op == 4)=false) (h5:(op == 5)=false) (hLn:∀ (vb vo:Value) (b:Nat) (ts:List Tk) (v:Value) (W:World) (aa:Option Addr) (cap:Nat),Wr b ts v W->DAt W (Off b v) aa args.length (zaw args)->ts.length+(zb0 op m nm (tEs args)).length<=4000000000000->Calls Tryz.prog 125 #[.pointer (some ⟨b,0,none⟩),.agg #[.int .i64 op,.string m,.string nm,.slice aa args.length cap,vb,vo]] W (zim b ts v W (zb0 op m nm (tEs args)))) (rl:zam (zb0 op m nm (tEs args))) (b:Nat) (ts:List Tk) (v0:Value) (W:World) (a1:Option Addr) (c1:Nat) (h:Wr b ts v0 W) (hA:DAt W (Off b v0) a1 args.length (zaw args)) (hl:ts.length+(zb0 op m nm (tEs args)).length+1<=4000000000000) :
 Calls Tryz.prog 101 #[.pointer (some ⟨b,0,none⟩),.agg #[.int .i64 op,.string m,.string nm,.slice a1 args.length c1,vb,vo]] W (zqn b ts v0 W (zb0 op m nm (tEs args)++[kTk tSem])):=by
 have HE:Hid (zb0 op m nm (tEs args)++[kTk tSem]=zb0 op m nm (tEs args)++[pTk tSem]):=by
  show _=_;rw [pk (t:=tSem) (by decide)]
 have HLn:=hid hLn;have HRl:=hid rl;clear hLn rl
 obtain ⟨W0,hW0⟩:∃ W0,W0=W.alloc (.cells #[.int .i64 op,.string m,.string nm,.slice a1 args.length c1,vb,vo] 47):=⟨_,rfl⟩
 obtain ⟨x0_0,x1_0,x2_0,x3_0,x4_0,x5_0⟩:=zwk W (.int .i64 op) (.string m) (.string nm) (.slice a1 args.length c1) (vb) (vo) 47;rw [← hW0] at x0_0 x1_0 x2_0 x3_0 x4_0 x5_0
 have H0:Hid (Wr b ts v0 W0):=by rw [hW0];exact h.alloc _
 have C0:=hid (zjr.start ts)
 have K0:Hid (WK b v0 v0 W W0):=by rw [hW0];exact WK.of_below (al1 _ _) b v0
 have hz0:W0.heap.size=W.heap.size+1:=by rw [hW0];simp
 have hlt0:b<W0.heap.size:=H0.out.lt;have hf0:Hid (Off b v0 W.heap.size):=h.own (Nat.le_refl _)
 have hx0:W.heap.size<W0.heap.size:=by omega
 have DA0:Hid (DAt W0 (Off b v0) a1 args.length (zaw args)):=by rw [hW0];exact hA.moves (Moves.of_below (al1 _ _) _)
 clear h hA;generalize hkb:W.heap.size=kb at *;go_enter Tryz.func101,Tryz.ntmps101;go_upto_region 1 with fail;rw [← hW0];clear hW0;go_wp2_with fail;refine (HLn.out vb vo b _ v0 W0 a1 c1 H0.out DA0.out (by omega)).mono ?_;rintro e W1 ⟨v1,rfl,hh,kk⟩
 obtain ⟨T1,hT1⟩:∃ T,T=ts++zb0 op m nm (tEs args):=⟨_,rfl⟩
 rw [← hT1] at hh;have C1:Hid (zjr (zb0 op m nm (tEs args)) ts T1):=C0.out.trans (Or.inl hT1) HRl.out;clear hT1;have H1:=hid hh;have K1:=hid (K0.out.trans kk);have hlt1:=hh.lt;have hz1:=kk.size;have hL1:=C1.out.len
 try simp at hL1
 have DA1:=hid (DA0.out.moves kk.moves);have x0_1:=(kk.cell (off:=0) hx0 hf0.out).trans x0_0;have x1_1:=(kk.cell (off:=1) hx0 hf0.out).trans x1_0;have x2_1:=(kk.cell (off:=2) hx0 hf0.out).trans x2_0;have x3_1:=(kk.cell (off:=3) hx0 hf0.out).trans x3_0;have x4_1:=(kk.cell (off:=4) hx0 hf0.out).trans x4_0;have x5_1:=(kk.cell (off:=5) hx0 hf0.out).trans x5_0;have hf1:=hid (kk.off hx0 hf0.out);have hx1:kb<W1.heap.size:=Nat.lt_of_lt_of_le hx0 kk.size;clear hh kk;clear x0_0 x1_0 x2_0 x3_0 x4_0 x5_0;go_wp2_with fail;refine (zg7 b _ tSem _ v1 W1 (by omega) H1.out (by decide) (by omega)).mono ?_;rintro e W2 ⟨v2,rfl,hh,kk⟩
 obtain ⟨T2,hT2⟩:∃ T,T=T1++[pTk tSem]:=⟨_,rfl⟩
 rw [← hT2] at hh;have C2:Hid (zjr (zb0 op m nm (tEs args)++[pTk tSem]) ts T2):=C1.out.trans (Or.inl hT2) (zgs (by decide));clear hT2;have H2:=hid hh;have K2:=hid (K1.out.trans kk);have hlt2:=hh.lt;have hz2:=kk.size;have hL2:=C2.out.len
 try simp at hL2
 have DA2:=hid (DA1.out.moves kk.moves);have x0_2:=(kk.cell (off:=0) hx1 hf1.out).trans x0_1;have x1_2:=(kk.cell (off:=1) hx1 hf1.out).trans x1_1;have x2_2:=(kk.cell (off:=2) hx1 hf1.out).trans x2_1;have x3_2:=(kk.cell (off:=3) hx1 hf1.out).trans x3_1;have x4_2:=(kk.cell (off:=4) hx1 hf1.out).trans x4_1;have x5_2:=(kk.cell (off:=5) hx1 hf1.out).trans x5_1;have hf2:=hid (kk.off hx1 hf1.out);have hx2:kb<W2.heap.size:=Nat.lt_of_lt_of_le hx1 kk.size;clear hh kk;clear x0_1 x1_1 x2_1 x3_1 x4_1 x5_1;go_wp2_with fail;go_end0;exact ⟨T2,v2,rfl,H2.out,K2.out,by rw [HE.out];exact C2.out.1⟩
theorem z2c {s:St} (h:stOk s):WrS s:=by
 induction h with
 | @mk op m nm args body other h1 h2 h3 h4 h5 h6 h7 h8 ih1 ih2=>
   intro b ts v W a1 a2 a3 c1 c2 c3 hW hA hB hO hl;simp only [St.op,St.mod,St.name,St.args,St.body,St.other] at *;have bB:=zqo body ih1 (fun s hs=>z1s (h7 s hs));have bO:=zqo other ih2 (fun s hs=>z1s (h8 s hs));have rB:=zxw (zjb h7);have rO:=zxw (zjb h8)
   by_cases o4:op=4
   . subst o4
     obtain ⟨x,rfl⟩:=ze3 h3 rfl rfl;have hx:=h4 x (by simp)
     by_cases ho:other=[]
     . subst ho
       have e:tS (.mk 4 m nm [x] body [])=kTk tIf :: (tE x++brT (tSs body)):=by simp [tS,tEs,zbv]
       rw [e] at hl ⊢;exact z0e m nm x (zrw hx) (z0q hx) body bB rB b ts v W a1 a2 a3 c1 c2 c3 hW hA hB (by simp [brT] at hl;omega)
     . have hp:0<other.length:=List.length_pos_iff.2 ho
       have e:tS (.mk 4 m nm [x] body other)=kTk tIf :: (tE x++(brT (tSs body)++kTk tElse :: brT (tSs other))):=by simp [tS,tEs,zbv,ho]
       rw [e] at hl ⊢;exact z0f m nm x (zrw hx) (z0q hx) body other bB rB bO rO b ts v W a1 a2 a3 c1 c2 c3 hW hA hB hO hp (by simp [brT] at hl;omega)
   by_cases o5:op=5
   . subst o5
     obtain ⟨x,rfl⟩:=ze3 h3 rfl rfl;have hx:=h4 x (by simp)
     have e:tS (.mk 5 m nm [x] body other)=kTk tWhile :: (tE x++brT (tSs body)):=by simp [tS,tEs,zbv]
     rw [e] at hl ⊢;exact z2b m nm x (zrw hx) (z0q hx) body other bB rB b ts v W a1 a2 a3 c1 c2 c3 hW hA hB hO (by simp [brT] at hl;omega)
   have e:tS (.mk op m nm args body other)=zb0 op m nm (tEs args)++[kTk tSem]:=by simp [tS,zbv,o4,o5]
   rw [e] at hl ⊢;exact z0g op m nm args _ _ (by simp [o4]) (by simp [o5]) (fun vb vo b ts v W aa cap=>z2a h1 o4 o5 h2 h3 h4 vb vo b ts v W aa cap) (zyq h1 h2 h4) b ts v W a1 c1 hW hA (by simp at hl;omega)
theorem zry {l:List St} (h:∀ s ∈ l,stOk s):WrB l:=zqo l (fun s hs=>z2c (h s hs)) (fun s hs=>z1s (h s hs))
end Go.Proofs.YtcekpobmbmnplaaGreatDoor

namespace Go.Proofs.YtcekpobmbmnplaaGreatDoor
set_option maxRecDepth 100000
set_option maxHeartbeats 1600000
open Go.RowKit Go.Shelf
theorem z2r (W:World) (x0 x1 x2 x3:Value) (t:TypeId):(W.alloc (.cells #[x0,x1,x2,x3] t)).cell? ⟨W.heap.size,0,none⟩=some x0/\(W.alloc (.cells #[x0,x1,x2,x3] t)).cell? ⟨W.heap.size,1,none⟩=some x1/\(W.alloc (.cells #[x0,x1,x2,x3] t)).cell? ⟨W.heap.size,2,none⟩=some x2/\(W.alloc (.cells #[x0,x1,x2,x3] t)).cell? ⟨W.heap.size,3,none⟩=some x3:=by
 have h:=heap_newP W (.cells #[x0,x1,x2,x3] t);exact ⟨by rw [Lib.cell_of_heap h];rfl,by rw [Lib.cell_of_heap h];rfl,by rw [Lib.cell_of_heap h];rfl,by rw [Lib.cell_of_heap h];rfl⟩
theorem zx3 (p:Bool) (b:Nat) (ts:List Tk) (v:Value) (W:World) (h:Wr b ts v W) (hl:ts.length+(pubT p).length<=4000000000000) :
 Calls Tryz.prog 98 #[.pointer (some ⟨b,0,none⟩),.bool p] W (zim b ts v W (pubT p)):=by
 have HW:=hid h;have hlt:=h.lt;have HK:Hid (kTk tPub=pTk tPub):=(pk (by decide)).symm;clear h
 cases p with
 | true=>
   have HE:Hid (pubT true=[pTk tPub]):=by show _=_;unfold pubT;rw [if_pos rfl,HK.out]
   rw [HE.out] at hl ⊢;go_enter Tryz.func98,Tryz.ntmps98;go_wp2_with fail;refine (zg7 b _ tPub ts v W rfl HW.out (by decide) (by simpa using hl)).mono ?_;rintro e W1 ⟨v1,rfl,h1,k1⟩;go_wp2_with fail;go_end0;exact ⟨v1,rfl,h1,k1⟩
 | false=>
   have HE:Hid (pubT false=[]):=rfl;go_enter Tryz.func98,Tryz.ntmps98;go_wp2_with fail;go_end0;exact ⟨v,rfl,by show Wr b (ts++[]) v W;rw [List.append_nil];exact HW.out,WK.refl _ _ _⟩
theorem z2d (n:Int) (nm:ByteArray) (p:Bool) (hn:zae nm=true) (b:Nat) (ts:List Tk) (v0:Value) (W:World) (h:Wr b ts v0 W) (hl:ts.length+(pubT p).length+5<=4000000000000) :
 Calls Tryz.prog 60 #[.pointer (some ⟨b,0,none⟩),.agg #[.int .i64 1,.string nm,.bool p,.int .i64 n]] W (zim b ts v0 W (pubT p++[kTk tConst,wTk nm,kTk tEq,nTk n,kTk tSem])):=by
 have HE:Hid (pubT p++[kTk tConst,wTk nm,kTk tEq,nTk n,kTk tSem]=pubT p++[pTk tConst,pTk nm,pTk tEq]++[nTk n]++[pTk tSem]):=by
  show _=_
  rw [pn hn,pk (t:=tConst) (by decide),pk (t:=tEq) (by decide),pk (t:=tSem) (by decide)];simp
 have hnf:=zeg hn
 obtain ⟨W0,hW0⟩:∃ W0,W0=W.alloc (.cells #[.int .i64 1,.string nm,.bool p,.int .i64 n] 58):=⟨_,rfl⟩
 obtain ⟨x0_0,x1_0,x2_0,x3_0⟩:=z2r W (.int .i64 1) (.string nm) (.bool p) (.int .i64 n) 58;rw [← hW0] at x0_0 x1_0 x2_0 x3_0
 have H0:Hid (Wr b (ts++[]) v0 W0):=by
  rw [hW0,List.append_nil];exact h.alloc _
 have K0:Hid (WK b v0 v0 W W0):=by rw [hW0];exact WK.of_below (al1 _ _) b v0
 have hz0:W0.heap.size=W.heap.size+1:=by rw [hW0];simp
 have hlt0:b<W0.heap.size:=H0.out.lt;have hf0:Hid (Off b v0 W.heap.size):=h.own (Nat.le_refl _)
 have hx0:W.heap.size<W0.heap.size:=by omega
 clear h;generalize hkb:W.heap.size=kb at *;go_enter Tryz.func60,Tryz.ntmps60;go_upto_region 1 with fail;rw [← hW0];clear hW0;go_wp2_with fail;refine (zx3 p b _ v0 W0 H0.out (by simp;omega)).mono ?_;rintro e W1 ⟨v1,rfl,hh,kk⟩;obtain ⟨H1,K1,hlt1,hz1,x0_1,x1_1,x2_1,x3_1,hf1,hx1⟩:=w4 hh kk K0 hx0 hf0 x0_0 x1_0 x2_0 x3_0;clear hh kk x0_0 x1_0 x2_0 x3_0;go_wp2_with fail;refine (z0s b _ tConst nm tEq _ v1 W1 (by omega) H1.out (by decide) hnf (by decide) (by simp;omega)).mono ?_;rintro e W2 ⟨v2,rfl,hh,kk⟩;obtain ⟨H2,K2,hlt2,hz2,x0_2,x1_2,x2_2,x3_2,hf2,hx2⟩:=w4 hh kk K1 hx1 hf1 x0_1 x1_1 x2_1 x3_1;clear hh kk x0_1 x1_1 x2_1 x3_1;go_wp2_with fail;refine (zgr b _ v2 n W2 H2.out (by simp;omega)).mono ?_;rintro e W3 ⟨v3,rfl,hh,kk⟩;obtain ⟨H3,K3,hlt3,hz3,x0_3,x1_3,x2_3,x3_3,hf3,hx3⟩:=w4 hh kk K2 hx2 hf2 x0_2 x1_2 x2_2 x3_2
 clear hh kk x0_2 x1_2 x2_2 x3_2;go_wp2_with fail;refine (zg7 b _ tSem _ v3 W3 (by omega) H3.out (by decide) (by simp;omega)).mono ?_;rintro e W4 ⟨v4,rfl,hh,kk⟩;obtain ⟨H4,K4,hlt4,hz4,x0_4,x1_4,x2_4,x3_4,hf4,hx4⟩:=w4 hh kk K3 hx3 hf3 x0_3 x1_3 x2_3 x3_3;clear hh kk x0_3 x1_3 x2_3 x3_3;go_wp2_with fail;go_end0;exact ⟨v4,rfl,by rw [HE.out];exact H4.out,K4.out⟩
theorem z2e (n:Int) (nm:ByteArray) (p:Bool) (hn:zae nm=true) (b:Nat) (ts:List Tk) (v0:Value) (W:World) (h:Wr b ts v0 W) (hl:ts.length+(pubT p).length+3<=4000000000000) :
 Calls Tryz.prog 60 #[.pointer (some ⟨b,0,none⟩),.agg #[.int .i64 2,.string nm,.bool p,.int .i64 n]] W (zim b ts v0 W (pubT p++[kTk tVar,wTk nm,kTk tSem])):=by
 have HE:Hid (pubT p++[kTk tVar,wTk nm,kTk tSem]=pubT p++[pTk tVar,pTk nm]++[pTk tSem]):=by
  show _=_
  rw [pn hn,pk (t:=tVar) (by decide),pk (t:=tSem) (by decide)];simp
 have hnf:=zeg hn
 obtain ⟨W0,hW0⟩:∃ W0,W0=W.alloc (.cells #[.int .i64 2,.string nm,.bool p,.int .i64 n] 58):=⟨_,rfl⟩
 obtain ⟨x0_0,x1_0,x2_0,x3_0⟩:=z2r W (.int .i64 2) (.string nm) (.bool p) (.int .i64 n) 58;rw [← hW0] at x0_0 x1_0 x2_0 x3_0
 have H0:Hid (Wr b (ts++[]) v0 W0):=by
  rw [hW0,List.append_nil];exact h.alloc _
 have K0:Hid (WK b v0 v0 W W0):=by rw [hW0];exact WK.of_below (al1 _ _) b v0
 have hz0:W0.heap.size=W.heap.size+1:=by rw [hW0];simp
 have hlt0:b<W0.heap.size:=H0.out.lt;have hf0:Hid (Off b v0 W.heap.size):=h.own (Nat.le_refl _)
 have hx0:W.heap.size<W0.heap.size:=by omega
 clear h;generalize hkb:W.heap.size=kb at *;go_enter Tryz.func60,Tryz.ntmps60;go_upto_region 1 with fail;rw [← hW0];clear hW0;go_wp2_with fail;refine (zx3 p b _ v0 W0 H0.out (by simp;omega)).mono ?_;rintro e W1 ⟨v1,rfl,hh,kk⟩;obtain ⟨H1,K1,hlt1,hz1,x0_1,x1_1,x2_1,x3_1,hf1,hx1⟩:=w4 hh kk K0 hx0 hf0 x0_0 x1_0 x2_0 x3_0;clear hh kk x0_0 x1_0 x2_0 x3_0;go_wp2_with fail;refine (z3i b _ tVar nm _ v1 W1 (by omega) H1.out (by decide) hnf (by simp;omega)).mono ?_;rintro e W2 ⟨v2,rfl,hh,kk⟩;obtain ⟨H2,K2,hlt2,hz2,x0_2,x1_2,x2_2,x3_2,hf2,hx2⟩:=w4 hh kk K1 hx1 hf1 x0_1 x1_1 x2_1 x3_1;clear hh kk x0_1 x1_1 x2_1 x3_1;go_wp2_with fail;refine (zg7 b _ tSem _ v2 W2 (by omega) H2.out (by decide) (by simp;omega)).mono ?_;rintro e W3 ⟨v3,rfl,hh,kk⟩;obtain ⟨H3,K3,hlt3,hz3,x0_3,x1_3,x2_3,x3_3,hf3,hx3⟩:=w4 hh kk K2 hx2 hf2 x0_2 x1_2 x2_2 x3_2
 clear hh kk x0_2 x1_2 x2_2 x3_2;go_wp2_with fail;go_end0;exact ⟨v3,rfl,by rw [HE.out];exact H3.out,K3.out⟩
theorem z2f (n:Int) (nm:ByteArray) (p:Bool) (hn:zae nm=true) (b:Nat) (ts:List Tk) (v0:Value) (W:World) (h:Wr b ts v0 W) (hl:ts.length+(pubT p).length+6<=4000000000000) :
 Calls Tryz.prog 60 #[.pointer (some ⟨b,0,none⟩),.agg #[.int .i64 3,.string nm,.bool p,.int .i64 n]] W (zim b ts v0 W (pubT p++[kTk tArray,wTk nm,kTk tLs,nTk n,kTk tRs,kTk tSem])):=by
 have HE:Hid (pubT p++[kTk tArray,wTk nm,kTk tLs,nTk n,kTk tRs,kTk tSem]=pubT p++[pTk tArray,pTk nm,pTk tLs]++[nTk n]++[pTk tRs]++[pTk tSem]):=by
  show _=_
  rw [pn hn,pk (t:=tArray) (by decide),pk (t:=tLs) (by decide),pk (t:=tRs) (by decide),pk (t:=tSem) (by decide)];simp
 have hnf:=zeg hn
 obtain ⟨W0,hW0⟩:∃ W0,W0=W.alloc (.cells #[.int .i64 3,.string nm,.bool p,.int .i64 n] 58):=⟨_,rfl⟩
 obtain ⟨x0_0,x1_0,x2_0,x3_0⟩:=z2r W (.int .i64 3) (.string nm) (.bool p) (.int .i64 n) 58;rw [← hW0] at x0_0 x1_0 x2_0 x3_0
 have H0:Hid (Wr b (ts++[]) v0 W0):=by
  rw [hW0,List.append_nil];exact h.alloc _
 have K0:Hid (WK b v0 v0 W W0):=by rw [hW0];exact WK.of_below (al1 _ _) b v0
 have hz0:W0.heap.size=W.heap.size+1:=by rw [hW0];simp
 have hlt0:b<W0.heap.size:=H0.out.lt;have hf0:Hid (Off b v0 W.heap.size):=h.own (Nat.le_refl _)
 have hx0:W.heap.size<W0.heap.size:=by omega
 clear h;generalize hkb:W.heap.size=kb at *;go_enter Tryz.func60,Tryz.ntmps60;go_upto_region 1 with fail;rw [← hW0];clear hW0;go_wp2_with fail;refine (zx3 p b _ v0 W0 H0.out (by simp;omega)).mono ?_;rintro e W1 ⟨v1,rfl,hh,kk⟩;obtain ⟨H1,K1,hlt1,hz1,x0_1,x1_1,x2_1,x3_1,hf1,hx1⟩:=w4 hh kk K0 hx0 hf0 x0_0 x1_0 x2_0 x3_0;clear hh kk x0_0 x1_0 x2_0 x3_0;go_wp2_with fail;refine (z0s b _ tArray nm tLs _ v1 W1 (by omega) H1.out (by decide) hnf (by decide) (by simp;omega)).mono ?_;rintro e W2 ⟨v2,rfl,hh,kk⟩;obtain ⟨H2,K2,hlt2,hz2,x0_2,x1_2,x2_2,x3_2,hf2,hx2⟩:=w4 hh kk K1 hx1 hf1 x0_1 x1_1 x2_1 x3_1;clear hh kk x0_1 x1_1 x2_1 x3_1;go_wp2_with fail;refine (zgr b _ v2 n W2 H2.out (by simp;omega)).mono ?_;rintro e W3 ⟨v3,rfl,hh,kk⟩;obtain ⟨H3,K3,hlt3,hz3,x0_3,x1_3,x2_3,x3_3,hf3,hx3⟩:=w4 hh kk K2 hx2 hf2 x0_2 x1_2 x2_2 x3_2
 clear hh kk x0_2 x1_2 x2_2 x3_2;go_wp2_with fail;refine (zg7 b _ tRs _ v3 W3 (by omega) H3.out (by decide) (by simp;omega)).mono ?_;rintro e W4 ⟨v4,rfl,hh,kk⟩;obtain ⟨H4,K4,hlt4,hz4,x0_4,x1_4,x2_4,x3_4,hf4,hx4⟩:=w4 hh kk K3 hx3 hf3 x0_3 x1_3 x2_3 x3_3;clear hh kk x0_3 x1_3 x2_3 x3_3;go_wp2_with fail;refine (zg7 b _ tSem _ v4 W4 (by omega) H4.out (by decide) (by simp;omega)).mono ?_;rintro e W5 ⟨v5,rfl,hh,kk⟩;obtain ⟨H5,K5,hlt5,hz5,x0_5,x1_5,x2_5,x3_5,hf5,hx5⟩:=w4 hh kk K4 hx4 hf4 x0_4 x1_4 x2_4 x3_4;clear hh kk x0_4 x1_4 x2_4 x3_4;go_wp2_with fail;go_end0;exact ⟨v5,rfl,by rw [HE.out];exact H5.out,K5.out⟩
theorem z2g {d:De} (h1:zae d.name=true) (h3:1<=d.kind) (h4:d.kind<=3) (b:Nat) (ts:List Tk) (v:Value) (W:World) (h:Wr b ts v W) (hl:ts.length+(tD d).length<=4000000000000) :
 Calls Tryz.prog 60 #[.pointer (some ⟨b,0,none⟩),.agg #[.int .i64 d.kind,.string d.name,.bool d.pub,.int .i64 d.n]] W (zim b ts v W (tD d)):=by
 obtain ⟨k,nm,p,n⟩:=d;simp only at *
 have hk:k=1\/k=2\/k=3:=by omega
 rcases hk with rfl | rfl | rfl
 . have e:tD ⟨1,nm,p,n⟩=pubT p++[kTk tConst,wTk nm,kTk tEq,nTk n,kTk tSem]:=by simp [tD]
   rw [e] at hl ⊢;exact z2d n nm p h1 b ts v W h (by simp at hl;omega)
 . have e:tD ⟨2,nm,p,n⟩=pubT p++[kTk tVar,wTk nm,kTk tSem]:=by simp [tD]
   rw [e] at hl ⊢;exact z2e n nm p h1 b ts v W h (by simp at hl;omega)
 . have e:tD ⟨3,nm,p,n⟩=pubT p++[kTk tArray,wTk nm,kTk tLs,nTk n,kTk tRs,kTk tSem]:=by simp [tD]
   rw [e] at hl ⊢;exact z2f n nm p h1 b ts v W h (by simp at hl;omega)
end Go.Proofs.YtcekpobmbmnplaaGreatDoor
