/-
  The writer: an index, and arguments, over what it does with an expression.
-/
import Derived.Test.YtcekpobmbmnplaaGreatDoorQc
namespace Go.Proofs.YtcekpobmbmnplaaGreatDoor
set_option maxRecDepth 100000
set_option maxHeartbeats 1600000
open Go.RowKit Go.Shelf
def WrE (x:Ex):Prop:=∀ (b:Nat) (ts:List Tk) (v:Value) (W:World) (aa:Option Addr) (cap:Nat),Wr b ts v W->DAt W (Off b v) aa x.args.length (zaw x.args)->x.mod.size<=maxLen->x.name.size<=maxLen->ts.length+(tE x).length<=4000000000000->
    Calls Tryz.prog 124 #[.pointer (some ⟨b,0,none⟩),.agg #[.int .i64 x.op,.int .i64 x.n,.string x.mod,.string x.name,.slice aa x.args.length cap]] W (zim b ts v W (tE x))
theorem zwb (W:World) (x0 x1 x2 x3 x4:Value) (t:TypeId):(W.alloc (.cells #[x0,x1,x2,x3,x4] t)).cell? ⟨W.heap.size,0,none⟩=some x0/\(W.alloc (.cells #[x0,x1,x2,x3,x4] t)).cell? ⟨W.heap.size,1,none⟩=some x1/\(W.alloc (.cells #[x0,x1,x2,x3,x4] t)).cell? ⟨W.heap.size,2,none⟩=some x2/\(W.alloc (.cells #[x0,x1,x2,x3,x4] t)).cell? ⟨W.heap.size,3,none⟩=some x3/\(W.alloc (.cells #[x0,x1,x2,x3,x4] t)).cell? ⟨W.heap.size,4,none⟩=some x4:=by
 have h:=heap_newP W (.cells #[x0,x1,x2,x3,x4] t);exact ⟨by rw [Lib.cell_of_heap h];rfl,by rw [Lib.cell_of_heap h];rfl,by rw [Lib.cell_of_heap h];rfl,by rw [Lib.cell_of_heap h];rfl,by rw [Lib.cell_of_heap h];rfl⟩
theorem zwk (W:World) (x0 x1 x2 x3 x4 x5:Value) (t:TypeId):(W.alloc (.cells #[x0,x1,x2,x3,x4,x5] t)).cell? ⟨W.heap.size,0,none⟩=some x0/\(W.alloc (.cells #[x0,x1,x2,x3,x4,x5] t)).cell? ⟨W.heap.size,1,none⟩=some x1/\(W.alloc (.cells #[x0,x1,x2,x3,x4,x5] t)).cell? ⟨W.heap.size,2,none⟩=some x2/\(W.alloc (.cells #[x0,x1,x2,x3,x4,x5] t)).cell? ⟨W.heap.size,3,none⟩=some x3/\(W.alloc (.cells #[x0,x1,x2,x3,x4,x5] t)).cell? ⟨W.heap.size,4,none⟩=some x4/\(W.alloc (.cells #[x0,x1,x2,x3,x4,x5] t)).cell? ⟨W.heap.size,5,none⟩=some x5:=by
 have h:=heap_newP W (.cells #[x0,x1,x2,x3,x4,x5] t);exact ⟨by rw [Lib.cell_of_heap h];rfl,by rw [Lib.cell_of_heap h];rfl,by rw [Lib.cell_of_heap h];rfl,by rw [Lib.cell_of_heap h];rfl,by rw [Lib.cell_of_heap h];rfl,by rw [Lib.cell_of_heap h];rfl⟩
theorem zwc (x:Ex) (hX:WrE x) (b:Nat) (ts:List Tk) (v0:Value) (W:World) (aa:Option Addr) (cap:Nat) (h:Wr b ts v0 W) (hA:DAt W (Off b v0) aa x.args.length (zaw x.args)) (hm:x.mod.size<=maxLen) (hnm:x.name.size<=maxLen) (hl:ts.length+(tE x).length+2<=4000000000000) :
 Calls Tryz.prog 139 #[.pointer (some ⟨b,0,none⟩),.agg #[.int .i64 x.op,.int .i64 x.n,.string x.mod,.string x.name,.slice aa x.args.length cap]] W (zim b ts v0 W (kTk tLs :: (tE x++[kTk tRs]))):=by
 have HX:=hid hX
 have HE:Hid (kTk tLs :: (tE x++[kTk tRs])=[pTk tLs]++tE x++[pTk tRs]):=by
  show _=_
  rw [pk (t:=tLs) (by decide),pk (t:=tRs) (by decide)];simp
 clear hX
 obtain ⟨W0,hW0⟩:∃ W0,W0=W.alloc (.cells #[.int .i64 x.op,.int .i64 x.n,.string x.mod,.string x.name,.slice aa x.args.length cap] 76):=⟨_,rfl⟩
 obtain ⟨x0_0,x1_0,x2_0,x3_0,x4_0⟩:=zwb W (.int .i64 x.op) (.int .i64 x.n) (.string x.mod) (.string x.name) (.slice aa x.args.length cap) 76;rw [← hW0] at x0_0 x1_0 x2_0 x3_0 x4_0
 have H0:Hid (Wr b (ts++[]) v0 W0):=by
  rw [hW0,List.append_nil];exact h.alloc _
 have K0:Hid (WK b v0 v0 W W0):=by rw [hW0];exact WK.of_below (al1 _ _) b v0
 have hz0:W0.heap.size=W.heap.size+1:=by rw [hW0];simp
 have hlt0:b<W0.heap.size:=H0.out.lt;have hf0:Hid (Off b v0 W.heap.size):=h.own (Nat.le_refl _)
 have hx0:W.heap.size<W0.heap.size:=by omega
 have DA0:Hid (DAt W0 (Off b v0) aa x.args.length (zaw x.args)):=by rw [hW0];exact hA.moves (Moves.of_below (al1 _ _) _)
 clear h hA;generalize hkb:W.heap.size=kb at *;go_enter Tryz.func139,Tryz.ntmps139;go_upto_region 1 with fail;rw [← hW0];clear hW0;go_wp2_with fail;refine (zg7 b _ tLs _ v0 W0 (by omega) H0.out (by decide) (by simp;omega)).mono ?_;rintro e W1 ⟨v1,rfl,hh,kk⟩;have DA1:=hid (DA0.out.moves kk.moves);obtain ⟨H1,K1,hlt1,hz1,x0_1,x1_1,x2_1,x3_1,x4_1,hf1,hx1⟩:=w5 hh kk K0 hx0 hf0 x0_0 x1_0 x2_0 x3_0 x4_0;clear hh kk x0_0 x1_0 x2_0 x3_0 x4_0;go_wp2_with fail;refine (HX.out b _ v1 W1 aa cap H1.out DA1.out hm hnm (by simp;omega)).mono ?_;rintro e W2 ⟨v2,rfl,hh,kk⟩;have DA2:=hid (DA1.out.moves kk.moves);obtain ⟨H2,K2,hlt2,hz2,x0_2,x1_2,x2_2,x3_2,x4_2,hf2,hx2⟩:=w5 hh kk K1 hx1 hf1 x0_1 x1_1 x2_1 x3_1 x4_1;clear hh kk x0_1 x1_1 x2_1 x3_1 x4_1;go_wp2_with fail;refine (zg7 b _ tRs _ v2 W2 (by omega) H2.out (by decide) (by simp;omega)).mono ?_;rintro e W3 ⟨v3,rfl,hh,kk⟩
 have DA3:=hid (DA2.out.moves kk.moves);obtain ⟨H3,K3,hlt3,hz3,x0_3,x1_3,x2_3,x3_3,x4_3,hf3,hx3⟩:=w5 hh kk K2 hx2 hf2 x0_2 x1_2 x2_2 x3_2 x4_2;clear hh kk x0_2 x1_2 x2_2 x3_2 x4_2;go_wp2_with fail;go_end0;exact ⟨v3,rfl,by rw [HE.out];exact H3.out,K3.out⟩
theorem zi2:∀ (xs ys:List (List Tk)),(commas xs).length<=(commas (xs++ys)).length
 | [],_=>by simp [commas]
 | [x],[]=>by simp
 | [x],y :: r=>by
   show x.length<=(x++kTk tCom :: commas (y :: r)).length;simp
 | x :: y :: r,zs=>by
   have:=zi2 (y :: r) zs;show (x++kTk tCom :: commas (y :: r)).length<=(x++kTk tCom :: commas ((y :: r)++zs)).length;simp only [List.length_append,List.length_cons] at this ⊢;omega
theorem zql (l:List Ex) (k:Nat):(commas (tEs (l.take k))).length<=(commas (tEs l)).length:=by
 have:=zi2 (tEs (l.take k)) (tEs (l.drop k));rw [← zfr,List.take_append_drop] at this;exact this
theorem zqm {l:List Ex} {k:Nat} (h:k<l.length) (h0:0<k):commas (tEs (l.take (k+1)))=commas (tEs (l.take k))++kTk tCom :: tE l[k]:=by
 rw [List.take_succ_eq_append_getElem h,zfr,show tEs [l[k]]=[tE l[k]] from by simp [tEs]]
 exact ze1 _ _ (fun e=>by
  have:=zgl (l.take k);rw [e] at this;simp at this
  omega)
theorem zow {l:List Ex} (h:0<l.length):commas (tEs (l.take 1))=tE l[0]:=by
 cases l with
 | nil=>simp at h
 | cons x r=>simp [tEs,commas]
theorem zyw (l:List Ex) (hX:∀ x ∈ l,WrE x) (b:Nat) (ts:List Tk) (v0:Value) (W:World) (aa:Option Addr) (cap:Nat) (h:Wr b ts v0 W) (hA:DAt W (Off b v0) aa l.length (zaw l)) (hl:ts.length+(commas (tEs l)).length+2<=4000000000000) (h3:l.length<=100) :
 Calls Tryz.prog 140 #[.pointer (some ⟨b,0,none⟩),.slice aa l.length cap] W (zim b ts v0 W (kTk tLp :: (commas (tEs l)++[kTk tRp]))):=by
 have HX:=hid hX
 have HE:Hid (kTk tLp :: (commas (tEs l)++[kTk tRp])=[pTk tLp]++commas (tEs l)++[pTk tRp]):=by
  show _=_
  rw [pk (t:=tLp) (by decide),pk (t:=tRp) (by decide)];simp
 have HCm:Hid (pTk tCom=kTk tCom):=pk (by decide);have HA:=hid hA;have HH:=hid h;clear hX hA h;go_enter Tryz.func140,Tryz.ntmps140;go_wp2_with fail;refine (zg7 b _ tLp ts v0 W rfl HH.out (by decide) (by omega)).mono ?_;rintro e W1 ⟨v1,rfl,hh,kk⟩;have H1:=hid hh;have K1:=hid kk;clear hh kk HH;go_wp2_with fail
 go_loopw [11,4,5] (fun i _ _ wr=>∃ (k:Nat) (vr:Value),k<=l.length/\i = .int .i64 k/\Wr b (ts++([pTk tLp]++commas (tEs (l.take k)))) vr wr/\WK b v0 vr W wr) (fun i _ _ _=>l.length - (intOf i).toNat)
 case atStart=>exact ⟨0,v1,Nat.zero_le _,rfl,by simpa [tEs,commas] using H1.out,K1.out⟩
 case round=>
  clear H1 K1;obtain ⟨k,vr,hk,rfl,hW,hK⟩:=hrel;have HW:=hid hW;have HK:=hid hK;have hltr:=hW.lt
  by_cases hkl:k<l.length
  . obtain ⟨eb,eo,ea,ec,rfl,hx⟩:=(HA.out.moves hK.moves).ex k hkl
    have HXk:=hid (HX.out l[k] (List.getElem_mem hkl));have HEx:=hid hx;have q0:=hx.c0;have q1:=hx.c1;have q2:=hx.c2;have q3:=hx.c3;have q4:=hx.c4;have hle:=hx.lt;have HLn:=hid (zql l (k+1))
    obtain ⟨Wb,hWb⟩:∃ Wb,Wb=wr.alloc (.cells #[.int .i64 l[k].op,.int .i64 l[k].n,.string l[k].mod,.string l[k].name,.slice ea l[k].args.length ec] 76):=⟨_,rfl⟩
    obtain ⟨x0,x1,x2,x3,x4⟩:=zwb wr (.int .i64 l[k].op) (.int .i64 l[k].n) (.string l[k].mod) (.string l[k].name) (.slice ea l[k].args.length ec) 76;rw [← hWb] at x0 x1 x2 x3 x4
    have HWb:Hid (Wr b (ts++([pTk tLp]++commas (tEs (l.take k)))) vr Wb):=by rw [hWb];exact hW.alloc _
    have KWb:Hid (WK b vr vr wr Wb):=by rw [hWb];exact WK.of_below (al1 _ _) b vr
    have DWb:Hid (DAt Wb (Off b vr) ea l[k].args.length (zaw l[k].args)):=by rw [hWb];exact hx.args.moves (Moves.of_below (al1 _ _) _)
    have hzb:Wb.heap.size=wr.heap.size+1:=by rw [hWb];simp
    have hfb:Hid (Off b vr wr.heap.size):=hW.own (Nat.le_refl _)
    have hltb:b<Wb.heap.size:=by omega
    have hxb:wr.heap.size<Wb.heap.size:=by omega
    by_cases hk0:k=0
    . have hk0':decide (0<k)=false:=decide_eq_false (by omega)
      have HT:Hid (commas (tEs (l.take (k+1)))=tE l[k]/\commas (tEs (l.take k))=[]):=by
       subst hk0;exact ⟨zow hkl,by simp [tEs,commas]⟩
      have hll:(tE l[k]).length<=(commas (tEs l)).length:=by have:=HLn.out;rw [HT.out.1] at this;exact this
      clear hW hK hx hk0;rw [HT.out.2] at HWb;go_upto_region 4 with fail;rw [← hWb];clear hWb;go_wp2_with fail;refine (HXk.out b _ vr Wb ea ec HWb.out DWb.out HEx.out.wm HEx.out.wna (by simp;omega)).mono ?_;rintro e W3 ⟨v3,rfl,hh,kk⟩
      have H3:Hid (Wr b (ts++([pTk tLp]++commas (tEs (l.take (k+1))))) v3 W3):=by
       show Wr _ _ _ _;rw [HT.out.1];have:=hh;simpa using this
      have K3:=hid ((HK.out.trans KWb.out).trans kk);clear hh kk;go_wp2_with fail;go_roundw
      case rel=>exact ⟨k+1,v3,by omega,by go_num,H3.out,K3.out⟩
      case measure=>simp [intOf];omega
    . have hk0':0<k:=by omega
      have HT:Hid (commas (tEs (l.take (k+1)))=commas (tEs (l.take k))++kTk tCom :: tE l[k]):=zqm hkl (by omega)
      have hll:(commas (tEs (l.take k))).length+1+(tE l[k]).length<=(commas (tEs l)).length:=by
       have:=HLn.out;rw [HT.out] at this;simp only [List.length_append,List.length_cons] at this;omega
      clear hW hK hx;go_upto_region 4 with fail;rw [← hWb];clear hWb;go_wp2_with fail;refine (zg7 b _ tCom _ vr Wb (by omega) HWb.out (by decide) (by simp;omega)).mono ?_;rintro e W2 ⟨v2,rfl,hh,kk⟩;have H2:=hid hh;have K2:=hid (KWb.out.trans kk);have y0:=(kk.cell (off:=0) hxb hfb.out).trans x0;have y1:=(kk.cell (off:=1) hxb hfb.out).trans x1;have y2:=(kk.cell (off:=2) hxb hfb.out).trans x2;have y3:=(kk.cell (off:=3) hxb hfb.out).trans x3;have y4:=(kk.cell (off:=4) hxb hfb.out).trans x4;have D2:=hid (DWb.out.moves kk.moves);have hz2:=kk.size
      have hx2:wr.heap.size<W2.heap.size:=by omega
      have hlt2:=hh.lt;clear hh kk x0 x1 x2 x3 x4;go_wp2_with fail;refine (HXk.out b _ v2 W2 ea ec H2.out D2.out HEx.out.wm HEx.out.wna (by simp;omega)).mono ?_;rintro e W3 ⟨v3,rfl,hh,kk⟩
      have H3:Hid (Wr b (ts++([pTk tLp]++commas (tEs (l.take (k+1))))) v3 W3):=by
       show Wr _ _ _ _;rw [HT.out,← HCm.out];have:=hh;simpa using this
      have K3:=hid ((HK.out.trans K2.out).trans kk);clear hh kk;go_wp2_with fail;go_roundw
      case rel=>exact ⟨k+1,v3,by omega,by go_num,H3.out,K3.out⟩
      case measure=>simp [intOf];omega
  . have hke:l.take k=l:=List.take_of_length_le (by omega)
    have H4:Hid (Wr b (ts++([pTk tLp]++commas (tEs l))) vr wr):=by
     have:=HW.out;rw [hke] at this;exact this
    clear hW hK HW;go_wp2_with fail;refine (zg7 b _ tRp _ vr wr (by omega) H4.out (by decide) (by simp;omega)).mono ?_;rintro e W5 ⟨v5,rfl,hh,kk⟩
    have H5:Hid (Wr b (ts++([pTk tLp]++commas (tEs l)++[pTk tRp])) v5 W5):=by
     have:=hh;rw [List.append_assoc] at this;exact this
    have K5:=hid (HK.out.trans kk);clear hh kk;go_wp2_with fail;go_end0;exact ⟨v5,rfl,by rw [HE.out];exact H5.out,K5.out⟩
end Go.Proofs.YtcekpobmbmnplaaGreatDoor

namespace Go.Proofs.YtcekpobmbmnplaaGreatDoor
set_option maxRecDepth 100000
set_option maxHeartbeats 16000000
open Go.RowKit Go.Shelf
theorem z1z (n:Int) (m nm:ByteArray) (k:Nat) (b:Nat) (ts:List Tk) (v0:Value) (W:World) (aa:Option Addr) (cap:Nat) (h:Wr b ts v0 W) (hl:ts.length+1<=4000000000000) :
 Calls Tryz.prog 124 #[.pointer (some ⟨b,0,none⟩),.agg #[.int .i64 1,.int .i64 n,.string m,.string nm,.slice aa k cap]] W (zim b ts v0 W ([nTk n])):=by
 obtain ⟨W0,hW0⟩:∃ W0,W0=W.alloc (.cells #[.int .i64 1,.int .i64 n,.string m,.string nm,.slice aa k cap] 76):=⟨_,rfl⟩
 obtain ⟨x0_0,x1_0,x2_0,x3_0,x4_0⟩:=zwb W (.int .i64 1) (.int .i64 n) (.string m) (.string nm) (.slice aa k cap) 76;rw [← hW0] at x0_0 x1_0 x2_0 x3_0 x4_0
 have H0:Hid (Wr b (ts++[]) v0 W0):=by
  rw [hW0,List.append_nil];exact h.alloc _
 have K0:Hid (WK b v0 v0 W W0):=by rw [hW0];exact WK.of_below (al1 _ _) b v0
 have hz0:W0.heap.size=W.heap.size+1:=by rw [hW0];simp
 have hlt0:b<W0.heap.size:=H0.out.lt;have hf0:Hid (Off b v0 W.heap.size):=h.own (Nat.le_refl _)
 have hx0:W.heap.size<W0.heap.size:=by omega
 clear h;generalize hkb:W.heap.size=kb at *;go_enter Tryz.func124,Tryz.ntmps124;go_upto_region 1 with fail;rw [← hW0];clear hW0;go_wp2_with fail;refine (zgr b _ v0 n W0 H0.out (by simp;omega)).mono ?_;rintro e W1 ⟨v1,rfl,hh,kk⟩;obtain ⟨H1,K1,hlt1,hz1,x0_1,x1_1,x2_1,x3_1,x4_1,hf1,hx1⟩:=w5 hh kk K0 hx0 hf0 x0_0 x1_0 x2_0 x3_0 x4_0;clear hh kk x0_0 x1_0 x2_0 x3_0 x4_0;go_wp2_with fail;go_end0;exact ⟨v1,rfl,H1.out,K1.out⟩
theorem z10 (n:Int) (m nm:ByteArray) (k:Nat) (b:Nat) (ts:List Tk) (v0:Value) (W:World) (aa:Option Addr) (cap:Nat) (h:Wr b ts v0 W) (hl:ts.length+1<=4000000000000) :
 Calls Tryz.prog 124 #[.pointer (some ⟨b,0,none⟩),.agg #[.int .i64 2,.int .i64 n,.string m,.string nm,.slice aa k cap]] W (zim b ts v0 W ([kTk tIn])):=by
 have HE:Hid ([kTk tIn]=[pTk tIn]):=by
  show _=_;rw [pk (t:=tIn) (by decide)]
 obtain ⟨W0,hW0⟩:∃ W0,W0=W.alloc (.cells #[.int .i64 2,.int .i64 n,.string m,.string nm,.slice aa k cap] 76):=⟨_,rfl⟩
 obtain ⟨x0_0,x1_0,x2_0,x3_0,x4_0⟩:=zwb W (.int .i64 2) (.int .i64 n) (.string m) (.string nm) (.slice aa k cap) 76;rw [← hW0] at x0_0 x1_0 x2_0 x3_0 x4_0
 have H0:Hid (Wr b (ts++[]) v0 W0):=by
  rw [hW0,List.append_nil];exact h.alloc _
 have K0:Hid (WK b v0 v0 W W0):=by rw [hW0];exact WK.of_below (al1 _ _) b v0
 have hz0:W0.heap.size=W.heap.size+1:=by rw [hW0];simp
 have hlt0:b<W0.heap.size:=H0.out.lt;have hf0:Hid (Off b v0 W.heap.size):=h.own (Nat.le_refl _)
 have hx0:W.heap.size<W0.heap.size:=by omega
 clear h;generalize hkb:W.heap.size=kb at *;go_enter Tryz.func124,Tryz.ntmps124;go_upto_region 1 with fail;rw [← hW0];clear hW0;go_wp2_with fail;refine (zg7 b _ tIn _ v0 W0 (by omega) H0.out (by decide) (by simp;omega)).mono ?_;rintro e W1 ⟨v1,rfl,hh,kk⟩;obtain ⟨H1,K1,hlt1,hz1,x0_1,x1_1,x2_1,x3_1,x4_1,hf1,hx1⟩:=w5 hh kk K0 hx0 hf0 x0_0 x1_0 x2_0 x3_0 x4_0;clear hh kk x0_0 x1_0 x2_0 x3_0 x4_0;go_wp2_with fail;go_end0;exact ⟨v1,rfl,by rw [HE.out];exact H1.out,K1.out⟩
theorem z11 (n:Int) (m nm:ByteArray) (k:Nat) (b:Nat) (ts:List Tk) (v0:Value) (W:World) (aa:Option Addr) (cap:Nat) (h:Wr b ts v0 W) (hn:zae nm=true) (hmm:m.size=0\/zae m=true) (hl:ts.length+(refT m nm).length<=4000000000000) :
 Calls Tryz.prog 124 #[.pointer (some ⟨b,0,none⟩),.agg #[.int .i64 3,.int .i64 n,.string m,.string nm,.slice aa k cap]] W (zim b ts v0 W (refT m nm)):=by
 obtain ⟨W0,hW0⟩:∃ W0,W0=W.alloc (.cells #[.int .i64 3,.int .i64 n,.string m,.string nm,.slice aa k cap] 76):=⟨_,rfl⟩
 obtain ⟨x0_0,x1_0,x2_0,x3_0,x4_0⟩:=zwb W (.int .i64 3) (.int .i64 n) (.string m) (.string nm) (.slice aa k cap) 76;rw [← hW0] at x0_0 x1_0 x2_0 x3_0 x4_0
 have H0:Hid (Wr b (ts++[]) v0 W0):=by
  rw [hW0,List.append_nil];exact h.alloc _
 have K0:Hid (WK b v0 v0 W W0):=by rw [hW0];exact WK.of_below (al1 _ _) b v0
 have hz0:W0.heap.size=W.heap.size+1:=by rw [hW0];simp
 have hlt0:b<W0.heap.size:=H0.out.lt;have hf0:Hid (Off b v0 W.heap.size):=h.own (Nat.le_refl _)
 have hx0:W.heap.size<W0.heap.size:=by omega
 clear h;generalize hkb:W.heap.size=kb at *;go_enter Tryz.func124,Tryz.ntmps124;go_upto_region 1 with fail;rw [← hW0];clear hW0;go_wp2_with fail;refine (zs6 b m nm _ v0 W0 H0.out hn hmm (by simp;omega)).mono ?_;rintro e W1 ⟨v1,rfl,hh,kk⟩;obtain ⟨H1,K1,hlt1,hz1,x0_1,x1_1,x2_1,x3_1,x4_1,hf1,hx1⟩:=w5 hh kk K0 hx0 hf0 x0_0 x1_0 x2_0 x3_0 x4_0;clear hh kk x0_0 x1_0 x2_0 x3_0 x4_0;go_wp2_with fail;go_end0;exact ⟨v1,rfl,H1.out,K1.out⟩
theorem z12 (n:Int) (m nm:ByteArray) (x:Ex) (hX:WrE x) (b:Nat) (ts:List Tk) (v0:Value) (W:World) (aa:Option Addr) (cap:Nat) (h:Wr b ts v0 W) (hA:DAt W (Off b v0) aa 1 (zaw [x])) (hn:zae nm=true) (hmm:m.size=0\/zae m=true) (hl:ts.length+(refT m nm).length+(tE x).length+2<=4000000000000) :
 Calls Tryz.prog 124 #[.pointer (some ⟨b,0,none⟩),.agg #[.int .i64 4,.int .i64 n,.string m,.string nm,.slice aa 1 cap]] W (zim b ts v0 W (refT m nm++kTk tLs :: (tE x++[kTk tRs]))):=by
 have HX:=hid hX;clear hX
 obtain ⟨W0,hW0⟩:∃ W0,W0=W.alloc (.cells #[.int .i64 4,.int .i64 n,.string m,.string nm,.slice aa 1 cap] 76):=⟨_,rfl⟩
 obtain ⟨x0_0,x1_0,x2_0,x3_0,x4_0⟩:=zwb W (.int .i64 4) (.int .i64 n) (.string m) (.string nm) (.slice aa 1 cap) 76;rw [← hW0] at x0_0 x1_0 x2_0 x3_0 x4_0
 have H0:Hid (Wr b (ts++[]) v0 W0):=by
  rw [hW0,List.append_nil];exact h.alloc _
 have K0:Hid (WK b v0 v0 W W0):=by rw [hW0];exact WK.of_below (al1 _ _) b v0
 have hz0:W0.heap.size=W.heap.size+1:=by rw [hW0];simp
 have hlt0:b<W0.heap.size:=H0.out.lt;have hf0:Hid (Off b v0 W.heap.size):=h.own (Nat.le_refl _)
 have hx0:W.heap.size<W0.heap.size:=by omega
 have DA0:Hid (DAt W0 (Off b v0) aa 1 (zaw [x])):=by rw [hW0];exact hA.moves (Moves.of_below (al1 _ _) _)
 clear h hA;generalize hkb:W.heap.size=kb at *;go_enter Tryz.func124,Tryz.ntmps124;go_upto_region 1 with fail;rw [← hW0];clear hW0;go_wp2_with fail;refine (zs6 b m nm _ v0 W0 H0.out hn hmm (by simp;omega)).mono ?_;rintro e W1 ⟨v1,rfl,hh,kk⟩;have DA1:=hid (DA0.out.moves kk.moves);obtain ⟨H1,K1,hlt1,hz1,x0_1,x1_1,x2_1,x3_1,x4_1,hf1,hx1⟩:=w5 hh kk K0 hx0 hf0 x0_0 x1_0 x2_0 x3_0 x4_0;clear hh kk x0_0 x1_0 x2_0 x3_0 x4_0;obtain ⟨eb0,eo0,ea0,ec0,he0,hx0'⟩:=DA1.out.ex (l:=[x]) 0 (by simp);subst he0;have hx0:ExAt W1 (Off b v1) eb0 (eo0+0*5) x ea0 ec0:=hx0';have q00:=hx0.c0;have q01:=hx0.c1;have q02:=hx0.c2;have q03:=hx0.c3;have q04:=hx0.c4;rw [Nat.zero_mul,Nat.add_zero] at q00 q01 q02 q03 q04;have hle0:=hx0.lt;have HEx0:=hid hx0;clear hx0 hx0';go_wp2_with fail;refine (zwc x HX.out b _ v1 W1 ea0 ec0 H1.out HEx0.out.args HEx0.out.wm HEx0.out.wna (by simp;omega)).mono ?_
 rintro e W2 ⟨v2,rfl,hh,kk⟩;have DA2:=hid (DA1.out.moves kk.moves);obtain ⟨H2,K2,hlt2,hz2,x0_2,x1_2,x2_2,x3_2,x4_2,hf2,hx2⟩:=w5 hh kk K1 hx1 hf1 x0_1 x1_1 x2_1 x3_1 x4_1;clear hh kk x0_1 x1_1 x2_1 x3_1 x4_1;go_wp2_with fail;go_end0;exact ⟨v2,rfl,H2.out,K2.out⟩
theorem z13 (n:Int) (m nm:ByteArray) (l:List Ex) (hX:∀ x ∈ l,WrE x) (h3:l.length<=100) (b:Nat) (ts:List Tk) (v0:Value) (W:World) (aa:Option Addr) (cap:Nat) (h:Wr b ts v0 W) (hA:DAt W (Off b v0) aa l.length (zaw l)) (hn:zae nm=true) (hmm:m.size=0\/zae m=true) (hl:ts.length+(refT m nm).length+(commas (tEs l)).length+2<=4000000000000) :
 Calls Tryz.prog 124 #[.pointer (some ⟨b,0,none⟩),.agg #[.int .i64 5,.int .i64 n,.string m,.string nm,.slice aa l.length cap]] W (zim b ts v0 W (refT m nm++kTk tLp :: (commas (tEs l)++[kTk tRp]))):=by
 have HX:=hid hX;clear hX
 obtain ⟨W0,hW0⟩:∃ W0,W0=W.alloc (.cells #[.int .i64 5,.int .i64 n,.string m,.string nm,.slice aa l.length cap] 76):=⟨_,rfl⟩
 obtain ⟨x0_0,x1_0,x2_0,x3_0,x4_0⟩:=zwb W (.int .i64 5) (.int .i64 n) (.string m) (.string nm) (.slice aa l.length cap) 76;rw [← hW0] at x0_0 x1_0 x2_0 x3_0 x4_0
 have H0:Hid (Wr b (ts++[]) v0 W0):=by
  rw [hW0,List.append_nil];exact h.alloc _
 have K0:Hid (WK b v0 v0 W W0):=by rw [hW0];exact WK.of_below (al1 _ _) b v0
 have hz0:W0.heap.size=W.heap.size+1:=by rw [hW0];simp
 have hlt0:b<W0.heap.size:=H0.out.lt;have hf0:Hid (Off b v0 W.heap.size):=h.own (Nat.le_refl _)
 have hx0:W.heap.size<W0.heap.size:=by omega
 have DA0:Hid (DAt W0 (Off b v0) aa l.length (zaw l)):=by rw [hW0];exact hA.moves (Moves.of_below (al1 _ _) _)
 clear h hA;generalize hkb:W.heap.size=kb at *;go_enter Tryz.func124,Tryz.ntmps124;go_upto_region 1 with fail;rw [← hW0];clear hW0;go_wp2_with fail;refine (zs6 b m nm _ v0 W0 H0.out hn hmm (by simp;omega)).mono ?_;rintro e W1 ⟨v1,rfl,hh,kk⟩;have DA1:=hid (DA0.out.moves kk.moves);obtain ⟨H1,K1,hlt1,hz1,x0_1,x1_1,x2_1,x3_1,x4_1,hf1,hx1⟩:=w5 hh kk K0 hx0 hf0 x0_0 x1_0 x2_0 x3_0 x4_0;clear hh kk x0_0 x1_0 x2_0 x3_0 x4_0;go_wp2_with fail;refine (zyw l HX.out b _ v1 W1 aa cap H1.out DA1.out (by simp;omega) h3).mono ?_;rintro e W2 ⟨v2,rfl,hh,kk⟩;have DA2:=hid (DA1.out.moves kk.moves);obtain ⟨H2,K2,hlt2,hz2,x0_2,x1_2,x2_2,x3_2,x4_2,hf2,hx2⟩:=w5 hh kk K1 hx1 hf1 x0_1 x1_1 x2_1 x3_1 x4_1;clear hh kk x0_1 x1_1 x2_1 x3_1 x4_1;go_wp2_with fail;go_end0;exact ⟨v2,rfl,H2.out,K2.out⟩
theorem z14 (n:Int) (m nm:ByteArray) (x:Ex) (hX:WrE x) (b:Nat) (ts:List Tk) (v0:Value) (W:World) (aa:Option Addr) (cap:Nat) (h:Wr b ts v0 W) (hA:DAt W (Off b v0) aa 1 (zaw [x])) (hl:ts.length+(tE x).length+1<=4000000000000) :
 Calls Tryz.prog 124 #[.pointer (some ⟨b,0,none⟩),.agg #[.int .i64 6,.int .i64 n,.string m,.string nm,.slice aa 1 cap]] W (zim b ts v0 W (kTk tNot :: tE x)):=by
 have HE:Hid (kTk tNot :: tE x=[pTk tNot]++tE x):=by
  show _=_
  rw [pk (t:=tNot) (by decide)];rfl
 have HX:=hid hX;clear hX
 obtain ⟨W0,hW0⟩:∃ W0,W0=W.alloc (.cells #[.int .i64 6,.int .i64 n,.string m,.string nm,.slice aa 1 cap] 76):=⟨_,rfl⟩
 obtain ⟨x0_0,x1_0,x2_0,x3_0,x4_0⟩:=zwb W (.int .i64 6) (.int .i64 n) (.string m) (.string nm) (.slice aa 1 cap) 76;rw [← hW0] at x0_0 x1_0 x2_0 x3_0 x4_0
 have H0:Hid (Wr b (ts++[]) v0 W0):=by
  rw [hW0,List.append_nil];exact h.alloc _
 have K0:Hid (WK b v0 v0 W W0):=by rw [hW0];exact WK.of_below (al1 _ _) b v0
 have hz0:W0.heap.size=W.heap.size+1:=by rw [hW0];simp
 have hlt0:b<W0.heap.size:=H0.out.lt;have hf0:Hid (Off b v0 W.heap.size):=h.own (Nat.le_refl _)
 have hx0:W.heap.size<W0.heap.size:=by omega
 have DA0:Hid (DAt W0 (Off b v0) aa 1 (zaw [x])):=by rw [hW0];exact hA.moves (Moves.of_below (al1 _ _) _)
 clear h hA;generalize hkb:W.heap.size=kb at *;go_enter Tryz.func124,Tryz.ntmps124;go_upto_region 1 with fail;rw [← hW0];clear hW0;go_wp2_with fail;refine (zg7 b _ tNot _ v0 W0 (by omega) H0.out (by decide) (by simp;omega)).mono ?_;rintro e W1 ⟨v1,rfl,hh,kk⟩;have DA1:=hid (DA0.out.moves kk.moves);obtain ⟨H1,K1,hlt1,hz1,x0_1,x1_1,x2_1,x3_1,x4_1,hf1,hx1⟩:=w5 hh kk K0 hx0 hf0 x0_0 x1_0 x2_0 x3_0 x4_0;clear hh kk x0_0 x1_0 x2_0 x3_0 x4_0;obtain ⟨eb0,eo0,ea0,ec0,he0,hx0'⟩:=DA1.out.ex (l:=[x]) 0 (by simp);subst he0;have hx0:ExAt W1 (Off b v1) eb0 (eo0+0*5) x ea0 ec0:=hx0';have q00:=hx0.c0;have q01:=hx0.c1;have q02:=hx0.c2;have q03:=hx0.c3;have q04:=hx0.c4;rw [Nat.zero_mul,Nat.add_zero] at q00 q01 q02 q03 q04;have hle0:=hx0.lt;have HEx0:=hid hx0;clear hx0 hx0';go_wp2_with fail;refine (HX.out b _ v1 W1 ea0 ec0 H1.out HEx0.out.args HEx0.out.wm HEx0.out.wna (by simp;omega)).mono ?_
 rintro e W2 ⟨v2,rfl,hh,kk⟩;have DA2:=hid (DA1.out.moves kk.moves);obtain ⟨H2,K2,hlt2,hz2,x0_2,x1_2,x2_2,x3_2,x4_2,hf2,hx2⟩:=w5 hh kk K1 hx1 hf1 x0_1 x1_1 x2_1 x3_1 x4_1;clear hh kk x0_1 x1_1 x2_1 x3_1 x4_1;go_wp2_with fail;go_end0;exact ⟨v2,rfl,by rw [HE.out];exact H2.out,K2.out⟩
theorem zf5 (op:Int) (t:ByteArray) (hot:(op=7/\t=⟨#[38]⟩)\/(op=8/\t=⟨#[124]⟩)\/(op=9/\t=⟨#[43]⟩)\/(op=10/\t=⟨#[45]⟩)\/(op=11/\t=⟨#[42]⟩)\/(op=12/\t=⟨#[47]⟩)\/(op=13/\t=⟨#[37]⟩)\/(op=14/\t=⟨#[61]⟩)\/(op=15/\t=⟨#[60]⟩)) (n:Int) (m nm:ByteArray) (x y:Ex) (hX:WrE x) (hY:WrE y) (b:Nat) (ts:List Tk) (v0:Value) (W:World) (aa:Option Addr) (cap:Nat) (h:Wr b ts v0 W) (hA:DAt W (Off b v0) aa 2 (zaw [x,y])) (hl:ts.length+(tE x).length+(tE y).length+3<=4000000000000) :
 Calls Tryz.prog 124 #[.pointer (some ⟨b,0,none⟩),.agg #[.int .i64 op,.int .i64 n,.string m,.string nm,.slice aa 2 cap]] W (zim b ts v0 W (kTk tLp :: (tE x++opTk op :: (tE y++[kTk tRp])))):=by
 have HE:Hid (kTk tLp :: (tE x++opTk op :: (tE y++[kTk tRp]))=[pTk tLp]++tE x++[pTk t]++tE y++[pTk tRp]):=by
  show _=_
  rcases hot with ⟨rfl,rfl⟩ | ⟨rfl,rfl⟩ | ⟨rfl,rfl⟩ | ⟨rfl,rfl⟩ | ⟨rfl,rfl⟩ | ⟨rfl,rfl⟩ | ⟨rfl,rfl⟩ | ⟨rfl,rfl⟩ | ⟨rfl,rfl⟩
  all_goals (rw [pk (t:=tLp) (by decide),pk (t:=tRp) (by decide),pk (by decide)];simp;rfl)
 have HX:=hid hX;have HY:=hid hY;clear hX hY
 obtain ⟨W0,hW0⟩:∃ W0,W0=W.alloc (.cells #[.int .i64 op,.int .i64 n,.string m,.string nm,.slice aa 2 cap] 76):=⟨_,rfl⟩
 obtain ⟨x0_0,x1_0,x2_0,x3_0,x4_0⟩:=zwb W (.int .i64 op) (.int .i64 n) (.string m) (.string nm) (.slice aa 2 cap) 76;rw [← hW0] at x0_0 x1_0 x2_0 x3_0 x4_0
 have H0:Hid (Wr b (ts++[]) v0 W0):=by
  rw [hW0,List.append_nil];exact h.alloc _
 have K0:Hid (WK b v0 v0 W W0):=by rw [hW0];exact WK.of_below (al1 _ _) b v0
 have hz0:W0.heap.size=W.heap.size+1:=by rw [hW0];simp
 have hlt0:b<W0.heap.size:=H0.out.lt;have hf0:Hid (Off b v0 W.heap.size):=h.own (Nat.le_refl _)
 have hx0:W.heap.size<W0.heap.size:=by omega
 have DA0:Hid (DAt W0 (Off b v0) aa 2 (zaw [x,y])):=by rw [hW0];exact hA.moves (Moves.of_below (al1 _ _) _)
 clear h hA;generalize hkb:W.heap.size=kb at *
 rcases hot with ⟨rfl,rfl⟩ | ⟨rfl,rfl⟩ | ⟨rfl,rfl⟩ | ⟨rfl,rfl⟩ | ⟨rfl,rfl⟩ | ⟨rfl,rfl⟩ | ⟨rfl,rfl⟩ | ⟨rfl,rfl⟩ | ⟨rfl,rfl⟩
 all_goals
  go_enter Tryz.func124,Tryz.ntmps124;go_upto_region 1 with fail;rw [← hW0];clear hW0;go_wp2_with fail;refine (zg7 b _ tLp _ v0 W0 (by omega) H0.out (by decide) (by simp;omega)).mono ?_;rintro e W1 ⟨v1,rfl,hh,kk⟩;have DA1:=hid (DA0.out.moves kk.moves);obtain ⟨H1,K1,hlt1,hz1,x0_1,x1_1,x2_1,x3_1,x4_1,hf1,hx1⟩:=w5 hh kk K0 hx0 hf0 x0_0 x1_0 x2_0 x3_0 x4_0;clear hh kk x0_0 x1_0 x2_0 x3_0 x4_0;obtain ⟨eb0,eo0,ea0,ec0,he0,hx0'⟩:=DA1.out.ex (l:=[x,y]) 0 (by simp);subst he0;have hx0:ExAt W1 (Off b v1) eb0 (eo0+0*5) x ea0 ec0:=hx0';have q00:=hx0.c0;have q01:=hx0.c1;have q02:=hx0.c2;have q03:=hx0.c3;have q04:=hx0.c4;rw [Nat.zero_mul,Nat.add_zero] at q00 q01 q02 q03 q04;have hle0:=hx0.lt;have HEx0:=hid hx0;clear hx0 hx0';go_wp2_with fail;refine (HX.out b _ v1 W1 ea0 ec0 H1.out HEx0.out.args HEx0.out.wm HEx0.out.wna (by simp;omega)).mono ?_
  rintro e W2 ⟨v2,rfl,hh,kk⟩;have DA2:=hid (DA1.out.moves kk.moves);obtain ⟨H2,K2,hlt2,hz2,x0_2,x1_2,x2_2,x3_2,x4_2,hf2,hx2⟩:=w5 hh kk K1 hx1 hf1 x0_1 x1_1 x2_1 x3_1 x4_1;clear hh kk x0_1 x1_1 x2_1 x3_1 x4_1 q00 q01 q02 q03 q04 hle0;go_wp2_with fail;refine (zg7 b _ _ _ v2 W2 (by omega) H2.out (by decide) (by simp;omega)).mono ?_;rintro e W3 ⟨v3,rfl,hh,kk⟩;have DA3:=hid (DA2.out.moves kk.moves);obtain ⟨H3,K3,hlt3,hz3,x0_3,x1_3,x2_3,x3_3,x4_3,hf3,hx3⟩:=w5 hh kk K2 hx2 hf2 x0_2 x1_2 x2_2 x3_2 x4_2;clear hh kk x0_2 x1_2 x2_2 x3_2 x4_2;obtain ⟨eb1,eo1,ea1,ec1,he1,hx1'⟩:=DA3.out.ex (l:=[x,y]) 1 (by simp)
  obtain ⟨rfl,rfl⟩:eb0=eb1/\eo0=eo1:=by cases he1;exact ⟨rfl,rfl⟩
  have hx1:ExAt W3 (Off b v3) eb0 (eo0+1*5) y ea1 ec1:=hx1';have q10:=hx1.c0;have q11:=hx1.c1;have q12:=hx1.c2;have q13:=hx1.c3;have q14:=hx1.c4;rw [Nat.one_mul] at q10 q11 q12 q13 q14;have hle1:=hx1.lt;have HEx1:=hid hx1;clear hx1 hx1';go_wp2_with fail;refine (HY.out b _ v3 W3 ea1 ec1 H3.out HEx1.out.args HEx1.out.wm HEx1.out.wna (by simp;omega)).mono ?_;rintro e W4 ⟨v4,rfl,hh,kk⟩;have DA4:=hid (DA3.out.moves kk.moves);obtain ⟨H4,K4,hlt4,hz4,x0_4,x1_4,x2_4,x3_4,x4_4,hf4,hx4⟩:=w5 hh kk K3 hx3 hf3 x0_3 x1_3 x2_3 x3_3 x4_3;clear hh kk x0_3 x1_3 x2_3 x3_3 x4_3;go_wp2_with fail;refine (zg7 b _ tRp _ v4 W4 (by omega) H4.out (by decide) (by simp;omega)).mono ?_;rintro e W5 ⟨v5,rfl,hh,kk⟩;have DA5:=hid (DA4.out.moves kk.moves);obtain ⟨H5,K5,hlt5,hz5,x0_5,x1_5,x2_5,x3_5,x4_5,hf5,hx5⟩:=w5 hh kk K4 hx4 hf4 x0_4 x1_4 x2_4 x3_4 x4_4
  clear hh kk x0_4 x1_4 x2_4 x3_4 x4_4;go_wp2_with fail;go_end0;exact ⟨v5,rfl,by rw [HE.out];exact H5.out,K5.out⟩
end Go.Proofs.YtcekpobmbmnplaaGreatDoor
