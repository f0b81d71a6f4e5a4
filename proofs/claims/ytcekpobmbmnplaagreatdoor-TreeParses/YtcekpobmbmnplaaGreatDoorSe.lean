/-
  The writer: any right expression; lines.
-/
import Derived.Test.YtcekpobmbmnplaaGreatDoorSc
namespace Go.Proofs.YtcekpobmbmnplaaGreatDoor
set_option maxRecDepth 100000
set_option maxHeartbeats 1600000
open Go.RowKit Go.Shelf
theorem ze3 {l:List Ex} {sh:Sh} (h:zas sh l.length=true) (h1:sh.least=1) (h2:sh.most=1):∃ x,l=[x]:=by
 unfold zas at h;rw [h1,h2] at h;simp at h
 match l,h with
 | [x],_=>exact ⟨x,rfl⟩
 | [],h=>simp at h
 | x :: y :: r,h=>simp at h;omega
theorem zdr {l:List Ex} {sh:Sh} (h:zas sh l.length=true) (h1:sh.least=2) (h2:sh.most=2):∃ x y,l=[x,y]:=by
 unfold zas at h;rw [h1,h2] at h;simp at h
 match l,h with
 | [x,y],_=>exact ⟨x,y,rfl⟩
 | [],h=>simp at h
 | [x],h=>simp at h
 | x :: y :: z :: r,h=>simp at h;omega
theorem zrv {n:Nat} {sh:Sh} (h:zas sh n=true) (h2:sh.most<=3):n<=3:=by
 unfold zas at h;simp at h;omega
theorem zrw {x:Ex} (h:exOk x):WrE x:=by
 induction h with
 | @mk op n m nm args h1 h2 h3 h4 h5 ih=>
   intro b ts v W aa cap hW hA hm hnm hl;simp only [Ex.op,Ex.n,Ex.mod,Ex.name,Ex.args] at *
   rcases zkl h1 with rfl | rfl | rfl | rfl | rfl | rfl | hop
   . simp only [tE,exTok] at hl ⊢
     exact z1z n m nm args.length b ts v W aa cap hW (by simpa using hl)
   . simp only [tE,exTok] at hl ⊢
     exact z10 n m nm args.length b ts v W aa cap hW (by simpa using hl)
   . obtain ⟨r1,r2⟩:=zbs rfl h2
     simp only [tE,exTok] at hl ⊢;exact z11 n m nm args.length b ts v W aa cap hW r1 r2 (by simpa using hl)
   . obtain ⟨r1,r2⟩:=zbs rfl h2
     obtain ⟨x,rfl⟩:=ze3 h4 rfl rfl
     have e:tE (.mk 4 n m nm [x])=refT m nm++kTk tLs :: (tE x++[kTk tRs]):=by simp [tE,tEs,exTok]
     rw [e] at hl ⊢;exact z12 n m nm x (ih x (by simp)) b ts v W aa cap hW hA r1 r2 (by simp at hl;omega)
   . obtain ⟨r1,r2⟩:=zbs rfl h2
     have e:tE (.mk 5 n m nm args)=refT m nm++kTk tLp :: (commas (tEs args)++[kTk tRp]):=by simp [tE,exTok]
     rw [e] at hl ⊢;exact z13 n m nm args ih (by have:=zrv h4 (by decide);omega) b ts v W aa cap hW hA r1 r2 (by simp at hl;omega)
   . obtain ⟨x,rfl⟩:=ze3 h4 rfl rfl
     have e:tE (.mk 6 n m nm [x])=kTk tNot :: tE x:=by simp [tE,tEs,exTok]
     rw [e] at hl ⊢;exact z14 n m nm x (ih x (by simp)) b ts v W aa cap hW hA (by simp at hl;omega)
   . have ho:op=7\/op=8\/op=9\/op=10\/op=11\/op=12\/op=13\/op=14\/op=15:=by omega
     rcases ho with rfl | rfl | rfl | rfl | rfl | rfl | rfl | rfl | rfl
     . obtain ⟨x,y,rfl⟩:=zdr h4 rfl rfl
       have e:tE (.mk 7 n m nm [x,y])=kTk tLp :: (tE x++opTk 7 :: (tE y++[kTk tRp])):=by simp [tE,tEs,exTok]
       rw [e] at hl ⊢;exact zf5 7 ⟨#[38]⟩ (by simp) n m nm x y (ih x (by simp)) (ih y (by simp)) b ts v W aa cap hW hA (by simp at hl;omega)
     . obtain ⟨x,y,rfl⟩:=zdr h4 rfl rfl
       have e:tE (.mk 8 n m nm [x,y])=kTk tLp :: (tE x++opTk 8 :: (tE y++[kTk tRp])):=by simp [tE,tEs,exTok]
       rw [e] at hl ⊢;exact zf5 8 ⟨#[124]⟩ (by simp) n m nm x y (ih x (by simp)) (ih y (by simp)) b ts v W aa cap hW hA (by simp at hl;omega)
     . obtain ⟨x,y,rfl⟩:=zdr h4 rfl rfl
       have e:tE (.mk 9 n m nm [x,y])=kTk tLp :: (tE x++opTk 9 :: (tE y++[kTk tRp])):=by simp [tE,tEs,exTok]
       rw [e] at hl ⊢;exact zf5 9 ⟨#[43]⟩ (by simp) n m nm x y (ih x (by simp)) (ih y (by simp)) b ts v W aa cap hW hA (by simp at hl;omega)
     . obtain ⟨x,y,rfl⟩:=zdr h4 rfl rfl
       have e:tE (.mk 10 n m nm [x,y])=kTk tLp :: (tE x++opTk 10 :: (tE y++[kTk tRp])):=by simp [tE,tEs,exTok]
       rw [e] at hl ⊢;exact zf5 10 ⟨#[45]⟩ (by simp) n m nm x y (ih x (by simp)) (ih y (by simp)) b ts v W aa cap hW hA (by simp at hl;omega)
     . obtain ⟨x,y,rfl⟩:=zdr h4 rfl rfl
       have e:tE (.mk 11 n m nm [x,y])=kTk tLp :: (tE x++opTk 11 :: (tE y++[kTk tRp])):=by simp [tE,tEs,exTok]
       rw [e] at hl ⊢;exact zf5 11 ⟨#[42]⟩ (by simp) n m nm x y (ih x (by simp)) (ih y (by simp)) b ts v W aa cap hW hA (by simp at hl;omega)
     . obtain ⟨x,y,rfl⟩:=zdr h4 rfl rfl
       have e:tE (.mk 12 n m nm [x,y])=kTk tLp :: (tE x++opTk 12 :: (tE y++[kTk tRp])):=by simp [tE,tEs,exTok]
       rw [e] at hl ⊢;exact zf5 12 ⟨#[47]⟩ (by simp) n m nm x y (ih x (by simp)) (ih y (by simp)) b ts v W aa cap hW hA (by simp at hl;omega)
     . obtain ⟨x,y,rfl⟩:=zdr h4 rfl rfl
       have e:tE (.mk 13 n m nm [x,y])=kTk tLp :: (tE x++opTk 13 :: (tE y++[kTk tRp])):=by simp [tE,tEs,exTok]
       rw [e] at hl ⊢;exact zf5 13 ⟨#[37]⟩ (by simp) n m nm x y (ih x (by simp)) (ih y (by simp)) b ts v W aa cap hW hA (by simp at hl;omega)
     . obtain ⟨x,y,rfl⟩:=zdr h4 rfl rfl
       have e:tE (.mk 14 n m nm [x,y])=kTk tLp :: (tE x++opTk 14 :: (tE y++[kTk tRp])):=by simp [tE,tEs,exTok]
       rw [e] at hl ⊢;exact zf5 14 ⟨#[61]⟩ (by simp) n m nm x y (ih x (by simp)) (ih y (by simp)) b ts v W aa cap hW hA (by simp at hl;omega)
     . obtain ⟨x,y,rfl⟩:=zdr h4 rfl rfl
       have e:tE (.mk 15 n m nm [x,y])=kTk tLp :: (tE x++opTk 15 :: (tE y++[kTk tRp])):=by simp [tE,tEs,exTok]
       rw [e] at hl ⊢;exact zf5 15 ⟨#[60]⟩ (by simp) n m nm x y (ih x (by simp)) (ih y (by simp)) b ts v W aa cap hW hA (by simp at hl;omega)
theorem z15 (m nm:ByteArray) (vb vo:Value) (x:Ex) (hX:WrE x) (b:Nat) (ts:List Tk) (v0:Value) (W:World) (aa:Option Addr) (cap:Nat) (h:Wr b ts v0 W) (hA:DAt W (Off b v0) aa 1 (zaw [x])) (hn:zae nm=true) (hmm:m.size=0\/zae m=true) (hl:ts.length+(refT m nm).length+(tE x).length+1<=4000000000000) :
 Calls Tryz.prog 125 #[.pointer (some ⟨b,0,none⟩),.agg #[.int .i64 1,.string m,.string nm,.slice aa 1 cap,vb,vo]] W (zim b ts v0 W (refT m nm++kTk tEq :: tE x)):=by
 have HE:Hid (refT m nm++kTk tEq :: tE x=refT m nm++[pTk tEq]++tE x):=by
  show _=_
  rw [pk (t:=tEq) (by decide)];simp
 have HX:=hid hX;clear hX
 obtain ⟨W0,hW0⟩:∃ W0,W0=W.alloc (.cells #[.int .i64 1,.string m,.string nm,.slice aa 1 cap,vb,vo] 47):=⟨_,rfl⟩
 obtain ⟨x0_0,x1_0,x2_0,x3_0,x4_0,x5_0⟩:=zwk W (.int .i64 1) (.string m) (.string nm) (.slice aa 1 cap) (vb) (vo) 47;rw [← hW0] at x0_0 x1_0 x2_0 x3_0 x4_0 x5_0
 have H0:Hid (Wr b (ts++[]) v0 W0):=by
  rw [hW0,List.append_nil];exact h.alloc _
 have K0:Hid (WK b v0 v0 W W0):=by rw [hW0];exact WK.of_below (al1 _ _) b v0
 have hz0:W0.heap.size=W.heap.size+1:=by rw [hW0];simp
 have hlt0:b<W0.heap.size:=H0.out.lt;have hf0:Hid (Off b v0 W.heap.size):=h.own (Nat.le_refl _)
 have hx0:W.heap.size<W0.heap.size:=by omega
 have DA0:Hid (DAt W0 (Off b v0) aa 1 (zaw [x])):=by rw [hW0];exact hA.moves (Moves.of_below (al1 _ _) _)
 clear h hA;generalize hkb:W.heap.size=kb at *;go_enter Tryz.func125,Tryz.ntmps125;go_upto_region 1 with fail;rw [← hW0];clear hW0;go_wp2_with fail;refine (zs6 b m nm _ v0 W0 H0.out hn hmm (by simp;omega)).mono ?_;rintro e W1 ⟨v1,rfl,hh,kk⟩;have DA1:=hid (DA0.out.moves kk.moves);obtain ⟨H1,K1,hlt1,hz1,x0_1,x1_1,x2_1,x3_1,x4_1,x5_1,hf1,hx1⟩:=w6 hh kk K0 hx0 hf0 x0_0 x1_0 x2_0 x3_0 x4_0 x5_0;clear hh kk x0_0 x1_0 x2_0 x3_0 x4_0 x5_0;go_wp2_with fail;refine (zg7 b _ tEq _ v1 W1 (by omega) H1.out (by decide) (by simp;omega)).mono ?_;rintro e W2 ⟨v2,rfl,hh,kk⟩;have DA2:=hid (DA1.out.moves kk.moves);obtain ⟨H2,K2,hlt2,hz2,x0_2,x1_2,x2_2,x3_2,x4_2,x5_2,hf2,hx2⟩:=w6 hh kk K1 hx1 hf1 x0_1 x1_1 x2_1 x3_1 x4_1 x5_1;clear hh kk x0_1 x1_1 x2_1 x3_1 x4_1 x5_1;obtain ⟨eb0,eo0,ea0,ec0,he0,hx0'⟩:=DA2.out.ex (l:=[x]) 0 (by simp);subst he0
 have hx0:ExAt W2 (Off b v2) eb0 (eo0+0*5) x ea0 ec0:=hx0';have q00:=hx0.c0;have q01:=hx0.c1;have q02:=hx0.c2;have q03:=hx0.c3;have q04:=hx0.c4;rw [Nat.zero_mul,Nat.add_zero] at q00 q01 q02 q03 q04;have hle0:=hx0.lt;have HEx0:=hid hx0;clear hx0 hx0';go_wp2_with fail;refine (HX.out b _ v2 W2 ea0 ec0 H2.out HEx0.out.args HEx0.out.wm HEx0.out.wna (by simp;omega)).mono ?_;rintro e W3 ⟨v3,rfl,hh,kk⟩;have DA3:=hid (DA2.out.moves kk.moves);obtain ⟨H3,K3,hlt3,hz3,x0_3,x1_3,x2_3,x3_3,x4_3,x5_3,hf3,hx3⟩:=w6 hh kk K2 hx2 hf2 x0_2 x1_2 x2_2 x3_2 x4_2 x5_2;clear hh kk x0_2 x1_2 x2_2 x3_2 x4_2 x5_2;go_wp2_with fail;go_end0;exact ⟨v3,rfl,by rw [HE.out];exact H3.out,K3.out⟩
theorem z16 (m nm:ByteArray) (vb vo:Value) (x y:Ex) (hX:WrE x) (hY:WrE y) (b:Nat) (ts:List Tk) (v0:Value) (W:World) (aa:Option Addr) (cap:Nat) (h:Wr b ts v0 W) (hA:DAt W (Off b v0) aa 2 (zaw [x,y])) (hn:zae nm=true) (hmm:m.size=0\/zae m=true) (hl:ts.length+(refT m nm).length+(tE x).length+(tE y).length+3<=4000000000000) :
 Calls Tryz.prog 125 #[.pointer (some ⟨b,0,none⟩),.agg #[.int .i64 2,.string m,.string nm,.slice aa 2 cap,vb,vo]] W (zim b ts v0 W (refT m nm++kTk tLs :: (tE x++kTk tRs :: kTk tEq :: tE y))):=by
 have HE:Hid (refT m nm++kTk tLs :: (tE x++kTk tRs :: kTk tEq :: tE y)=refT m nm++kTk tLs :: (tE x++[kTk tRs])++[pTk tEq]++tE y):=by
  show _=_
  rw [pk (t:=tEq) (by decide)];simp
 have HX:=hid hX;clear hX;have HY:=hid hY;clear hY
 obtain ⟨W0,hW0⟩:∃ W0,W0=W.alloc (.cells #[.int .i64 2,.string m,.string nm,.slice aa 2 cap,vb,vo] 47):=⟨_,rfl⟩
 obtain ⟨x0_0,x1_0,x2_0,x3_0,x4_0,x5_0⟩:=zwk W (.int .i64 2) (.string m) (.string nm) (.slice aa 2 cap) (vb) (vo) 47;rw [← hW0] at x0_0 x1_0 x2_0 x3_0 x4_0 x5_0
 have H0:Hid (Wr b (ts++[]) v0 W0):=by
  rw [hW0,List.append_nil];exact h.alloc _
 have K0:Hid (WK b v0 v0 W W0):=by rw [hW0];exact WK.of_below (al1 _ _) b v0
 have hz0:W0.heap.size=W.heap.size+1:=by rw [hW0];simp
 have hlt0:b<W0.heap.size:=H0.out.lt;have hf0:Hid (Off b v0 W.heap.size):=h.own (Nat.le_refl _)
 have hx0:W.heap.size<W0.heap.size:=by omega
 have DA0:Hid (DAt W0 (Off b v0) aa 2 (zaw [x,y])):=by rw [hW0];exact hA.moves (Moves.of_below (al1 _ _) _)
 clear h hA;generalize hkb:W.heap.size=kb at *;go_enter Tryz.func125,Tryz.ntmps125;go_upto_region 1 with fail;rw [← hW0];clear hW0;go_wp2_with fail;refine (zs6 b m nm _ v0 W0 H0.out hn hmm (by simp;omega)).mono ?_;rintro e W1 ⟨v1,rfl,hh,kk⟩;have DA1:=hid (DA0.out.moves kk.moves);obtain ⟨H1,K1,hlt1,hz1,x0_1,x1_1,x2_1,x3_1,x4_1,x5_1,hf1,hx1⟩:=w6 hh kk K0 hx0 hf0 x0_0 x1_0 x2_0 x3_0 x4_0 x5_0;clear hh kk x0_0 x1_0 x2_0 x3_0 x4_0 x5_0;obtain ⟨eb0,eo0,ea0,ec0,he0,hx0'⟩:=DA1.out.ex (l:=[x,y]) 0 (by simp);subst he0;have hx0:ExAt W1 (Off b v1) eb0 (eo0+0*5) x ea0 ec0:=hx0';have q00:=hx0.c0;have q01:=hx0.c1;have q02:=hx0.c2;have q03:=hx0.c3;have q04:=hx0.c4;rw [Nat.zero_mul,Nat.add_zero] at q00 q01 q02 q03 q04;have hle0:=hx0.lt;have HEx0:=hid hx0;clear hx0 hx0';go_wp2_with fail;refine (zwc x HX.out b _ v1 W1 ea0 ec0 H1.out HEx0.out.args HEx0.out.wm HEx0.out.wna (by simp;omega)).mono ?_
 rintro e W2 ⟨v2,rfl,hh,kk⟩;have DA2:=hid (DA1.out.moves kk.moves);obtain ⟨H2,K2,hlt2,hz2,x0_2,x1_2,x2_2,x3_2,x4_2,x5_2,hf2,hx2⟩:=w6 hh kk K1 hx1 hf1 x0_1 x1_1 x2_1 x3_1 x4_1 x5_1;clear hh kk x0_1 x1_1 x2_1 x3_1 x4_1 x5_1 q00 q01 q02 q03 q04 hle0;go_wp2_with fail;refine (zg7 b _ tEq _ v2 W2 (by omega) H2.out (by decide) (by simp;omega)).mono ?_;rintro e W3 ⟨v3,rfl,hh,kk⟩;have DA3:=hid (DA2.out.moves kk.moves);obtain ⟨H3,K3,hlt3,hz3,x0_3,x1_3,x2_3,x3_3,x4_3,x5_3,hf3,hx3⟩:=w6 hh kk K2 hx2 hf2 x0_2 x1_2 x2_2 x3_2 x4_2 x5_2;clear hh kk x0_2 x1_2 x2_2 x3_2 x4_2 x5_2;obtain ⟨eb1,eo1,ea1,ec1,he1,hx1'⟩:=DA3.out.ex (l:=[x,y]) 1 (by simp)
 obtain ⟨rfl,rfl⟩:eb0=eb1/\eo0=eo1:=by cases he1;exact ⟨rfl,rfl⟩
 have hx1:ExAt W3 (Off b v3) eb0 (eo0+1*5) y ea1 ec1:=hx1';have q10:=hx1.c0;have q11:=hx1.c1;have q12:=hx1.c2;have q13:=hx1.c3;have q14:=hx1.c4;rw [Nat.one_mul] at q10 q11 q12 q13 q14;have hle1:=hx1.lt;have HEx1:=hid hx1;clear hx1 hx1';go_wp2_with fail;refine (HY.out b _ v3 W3 ea1 ec1 H3.out HEx1.out.args HEx1.out.wm HEx1.out.wna (by simp;omega)).mono ?_;rintro e W4 ⟨v4,rfl,hh,kk⟩;have DA4:=hid (DA3.out.moves kk.moves);obtain ⟨H4,K4,hlt4,hz4,x0_4,x1_4,x2_4,x3_4,x4_4,x5_4,hf4,hx4⟩:=w6 hh kk K3 hx3 hf3 x0_3 x1_3 x2_3 x3_3 x4_3 x5_3;clear hh kk x0_3 x1_3 x2_3 x3_3 x4_3 x5_3;go_wp2_with fail;go_end0;exact ⟨v4,rfl,by rw [HE.out];exact H4.out,K4.out⟩
theorem z17 (m nm:ByteArray) (vb vo:Value) (l:List Ex) (hX:∀ x ∈ l,WrE x) (h3:l.length<=100) (b:Nat) (ts:List Tk) (v0:Value) (W:World) (aa:Option Addr) (cap:Nat) (h:Wr b ts v0 W) (hA:DAt W (Off b v0) aa l.length (zaw l)) (hn:zae nm=true) (hmm:m.size=0\/zae m=true) (hl:ts.length+(refT m nm).length+(commas (tEs l)).length+2<=4000000000000) :
 Calls Tryz.prog 125 #[.pointer (some ⟨b,0,none⟩),.agg #[.int .i64 3,.string m,.string nm,.slice aa l.length cap,vb,vo]] W (zim b ts v0 W (refT m nm++kTk tLp :: (commas (tEs l)++[kTk tRp]))):=by
 have HX:=hid hX;clear hX
 obtain ⟨W0,hW0⟩:∃ W0,W0=W.alloc (.cells #[.int .i64 3,.string m,.string nm,.slice aa l.length cap,vb,vo] 47):=⟨_,rfl⟩
 obtain ⟨x0_0,x1_0,x2_0,x3_0,x4_0,x5_0⟩:=zwk W (.int .i64 3) (.string m) (.string nm) (.slice aa l.length cap) (vb) (vo) 47;rw [← hW0] at x0_0 x1_0 x2_0 x3_0 x4_0 x5_0
 have H0:Hid (Wr b (ts++[]) v0 W0):=by
  rw [hW0,List.append_nil];exact h.alloc _
 have K0:Hid (WK b v0 v0 W W0):=by rw [hW0];exact WK.of_below (al1 _ _) b v0
 have hz0:W0.heap.size=W.heap.size+1:=by rw [hW0];simp
 have hlt0:b<W0.heap.size:=H0.out.lt;have hf0:Hid (Off b v0 W.heap.size):=h.own (Nat.le_refl _)
 have hx0:W.heap.size<W0.heap.size:=by omega
 have DA0:Hid (DAt W0 (Off b v0) aa l.length (zaw l)):=by rw [hW0];exact hA.moves (Moves.of_below (al1 _ _) _)
 clear h hA;generalize hkb:W.heap.size=kb at *;go_enter Tryz.func125,Tryz.ntmps125;go_upto_region 1 with fail;rw [← hW0];clear hW0;go_wp2_with fail;refine (zs6 b m nm _ v0 W0 H0.out hn hmm (by simp;omega)).mono ?_;rintro e W1 ⟨v1,rfl,hh,kk⟩;have DA1:=hid (DA0.out.moves kk.moves);obtain ⟨H1,K1,hlt1,hz1,x0_1,x1_1,x2_1,x3_1,x4_1,x5_1,hf1,hx1⟩:=w6 hh kk K0 hx0 hf0 x0_0 x1_0 x2_0 x3_0 x4_0 x5_0;clear hh kk x0_0 x1_0 x2_0 x3_0 x4_0 x5_0;go_wp2_with fail;refine (zyw l HX.out b _ v1 W1 aa cap H1.out DA1.out (by simp;omega) h3).mono ?_;rintro e W2 ⟨v2,rfl,hh,kk⟩;have DA2:=hid (DA1.out.moves kk.moves);obtain ⟨H2,K2,hlt2,hz2,x0_2,x1_2,x2_2,x3_2,x4_2,x5_2,hf2,hx2⟩:=w6 hh kk K1 hx1 hf1 x0_1 x1_1 x2_1 x3_1 x4_1 x5_1;clear hh kk x0_1 x1_1 x2_1 x3_1 x4_1 x5_1;go_wp2_with fail;go_end0;exact ⟨v2,rfl,H2.out,K2.out⟩
theorem z18 (m nm:ByteArray) (vb vo:Value) (x:Ex) (hX:WrE x) (b:Nat) (ts:List Tk) (v0:Value) (W:World) (aa:Option Addr) (cap:Nat) (h:Wr b ts v0 W) (hA:DAt W (Off b v0) aa 1 (zaw [x])) (hl:ts.length+(tE x).length+1<=4000000000000) :
 Calls Tryz.prog 125 #[.pointer (some ⟨b,0,none⟩),.agg #[.int .i64 6,.string m,.string nm,.slice aa 1 cap,vb,vo]] W (zim b ts v0 W (kTk tReturn :: tE x)):=by
 have HE:Hid (kTk tReturn :: tE x=[pTk tReturn]++tE x):=by
  show _=_
  rw [pk (t:=tReturn) (by decide)];rfl
 have HX:=hid hX;clear hX
 obtain ⟨W0,hW0⟩:∃ W0,W0=W.alloc (.cells #[.int .i64 6,.string m,.string nm,.slice aa 1 cap,vb,vo] 47):=⟨_,rfl⟩
 obtain ⟨x0_0,x1_0,x2_0,x3_0,x4_0,x5_0⟩:=zwk W (.int .i64 6) (.string m) (.string nm) (.slice aa 1 cap) (vb) (vo) 47;rw [← hW0] at x0_0 x1_0 x2_0 x3_0 x4_0 x5_0
 have H0:Hid (Wr b (ts++[]) v0 W0):=by
  rw [hW0,List.append_nil];exact h.alloc _
 have K0:Hid (WK b v0 v0 W W0):=by rw [hW0];exact WK.of_below (al1 _ _) b v0
 have hz0:W0.heap.size=W.heap.size+1:=by rw [hW0];simp
 have hlt0:b<W0.heap.size:=H0.out.lt;have hf0:Hid (Off b v0 W.heap.size):=h.own (Nat.le_refl _)
 have hx0:W.heap.size<W0.heap.size:=by omega
 have DA0:Hid (DAt W0 (Off b v0) aa 1 (zaw [x])):=by rw [hW0];exact hA.moves (Moves.of_below (al1 _ _) _)
 clear h hA;generalize hkb:W.heap.size=kb at *;go_enter Tryz.func125,Tryz.ntmps125;go_upto_region 1 with fail;rw [← hW0];clear hW0;go_wp2_with fail;refine (zg7 b _ tReturn _ v0 W0 (by omega) H0.out (by decide) (by simp;omega)).mono ?_;rintro e W1 ⟨v1,rfl,hh,kk⟩;have DA1:=hid (DA0.out.moves kk.moves);obtain ⟨H1,K1,hlt1,hz1,x0_1,x1_1,x2_1,x3_1,x4_1,x5_1,hf1,hx1⟩:=w6 hh kk K0 hx0 hf0 x0_0 x1_0 x2_0 x3_0 x4_0 x5_0;clear hh kk x0_0 x1_0 x2_0 x3_0 x4_0 x5_0;obtain ⟨eb0,eo0,ea0,ec0,he0,hx0'⟩:=DA1.out.ex (l:=[x]) 0 (by simp);subst he0;have hx0:ExAt W1 (Off b v1) eb0 (eo0+0*5) x ea0 ec0:=hx0';have q00:=hx0.c0;have q01:=hx0.c1;have q02:=hx0.c2;have q03:=hx0.c3;have q04:=hx0.c4;rw [Nat.zero_mul,Nat.add_zero] at q00 q01 q02 q03 q04;have hle0:=hx0.lt;have HEx0:=hid hx0;clear hx0 hx0';go_wp2_with fail;refine (HX.out b _ v1 W1 ea0 ec0 H1.out HEx0.out.args HEx0.out.wm HEx0.out.wna (by simp;omega)).mono ?_
 rintro e W2 ⟨v2,rfl,hh,kk⟩;have DA2:=hid (DA1.out.moves kk.moves);obtain ⟨H2,K2,hlt2,hz2,x0_2,x1_2,x2_2,x3_2,x4_2,x5_2,hf2,hx2⟩:=w6 hh kk K1 hx1 hf1 x0_1 x1_1 x2_1 x3_1 x4_1 x5_1;clear hh kk x0_1 x1_1 x2_1 x3_1 x4_1 x5_1;go_wp2_with fail;go_end0;exact ⟨v2,rfl,by rw [HE.out];exact H2.out,K2.out⟩
theorem z19 (m nm:ByteArray) (vb vo:Value) (x:Ex) (hX:WrE x) (b:Nat) (ts:List Tk) (v0:Value) (W:World) (aa:Option Addr) (cap:Nat) (h:Wr b ts v0 W) (hA:DAt W (Off b v0) aa 1 (zaw [x])) (hl:ts.length+(tE x).length+1<=4000000000000) :
 Calls Tryz.prog 125 #[.pointer (some ⟨b,0,none⟩),.agg #[.int .i64 7,.string m,.string nm,.slice aa 1 cap,vb,vo]] W (zim b ts v0 W (kTk tOut :: tE x)):=by
 have HE:Hid (kTk tOut :: tE x=[pTk tOut]++tE x):=by
  show _=_
  rw [pk (t:=tOut) (by decide)];rfl
 have HX:=hid hX;clear hX
 obtain ⟨W0,hW0⟩:∃ W0,W0=W.alloc (.cells #[.int .i64 7,.string m,.string nm,.slice aa 1 cap,vb,vo] 47):=⟨_,rfl⟩
 obtain ⟨x0_0,x1_0,x2_0,x3_0,x4_0,x5_0⟩:=zwk W (.int .i64 7) (.string m) (.string nm) (.slice aa 1 cap) (vb) (vo) 47;rw [← hW0] at x0_0 x1_0 x2_0 x3_0 x4_0 x5_0
 have H0:Hid (Wr b (ts++[]) v0 W0):=by
  rw [hW0,List.append_nil];exact h.alloc _
 have K0:Hid (WK b v0 v0 W W0):=by rw [hW0];exact WK.of_below (al1 _ _) b v0
 have hz0:W0.heap.size=W.heap.size+1:=by rw [hW0];simp
 have hlt0:b<W0.heap.size:=H0.out.lt;have hf0:Hid (Off b v0 W.heap.size):=h.own (Nat.le_refl _)
 have hx0:W.heap.size<W0.heap.size:=by omega
 have DA0:Hid (DAt W0 (Off b v0) aa 1 (zaw [x])):=by rw [hW0];exact hA.moves (Moves.of_below (al1 _ _) _)
 clear h hA;generalize hkb:W.heap.size=kb at *;go_enter Tryz.func125,Tryz.ntmps125;go_upto_region 1 with fail;rw [← hW0];clear hW0;go_wp2_with fail;refine (zg7 b _ tOut _ v0 W0 (by omega) H0.out (by decide) (by simp;omega)).mono ?_;rintro e W1 ⟨v1,rfl,hh,kk⟩;have DA1:=hid (DA0.out.moves kk.moves);obtain ⟨H1,K1,hlt1,hz1,x0_1,x1_1,x2_1,x3_1,x4_1,x5_1,hf1,hx1⟩:=w6 hh kk K0 hx0 hf0 x0_0 x1_0 x2_0 x3_0 x4_0 x5_0;clear hh kk x0_0 x1_0 x2_0 x3_0 x4_0 x5_0;obtain ⟨eb0,eo0,ea0,ec0,he0,hx0'⟩:=DA1.out.ex (l:=[x]) 0 (by simp);subst he0;have hx0:ExAt W1 (Off b v1) eb0 (eo0+0*5) x ea0 ec0:=hx0';have q00:=hx0.c0;have q01:=hx0.c1;have q02:=hx0.c2;have q03:=hx0.c3;have q04:=hx0.c4;rw [Nat.zero_mul,Nat.add_zero] at q00 q01 q02 q03 q04;have hle0:=hx0.lt;have HEx0:=hid hx0;clear hx0 hx0';go_wp2_with fail;refine (HX.out b _ v1 W1 ea0 ec0 H1.out HEx0.out.args HEx0.out.wm HEx0.out.wna (by simp;omega)).mono ?_
 rintro e W2 ⟨v2,rfl,hh,kk⟩;have DA2:=hid (DA1.out.moves kk.moves);obtain ⟨H2,K2,hlt2,hz2,x0_2,x1_2,x2_2,x3_2,x4_2,x5_2,hf2,hx2⟩:=w6 hh kk K1 hx1 hf1 x0_1 x1_1 x2_1 x3_1 x4_1 x5_1;clear hh kk x0_1 x1_1 x2_1 x3_1 x4_1 x5_1;go_wp2_with fail;go_end0;exact ⟨v2,rfl,by rw [HE.out];exact H2.out,K2.out⟩
theorem z2a {op:Int} {m nm:ByteArray} {args:List Ex} (h1:stB op=true) (h4:¬ op=4) (h5:¬ op=5) (h2:zca (stS op) m nm=true) (h3:zas (stS op) args.length=true) (hx:∀ a ∈ args,exOk a) (vb vo:Value) (b:Nat) (ts:List Tk) (v:Value) (W:World) (aa:Option Addr) (cap:Nat) (hW:Wr b ts v W) (hA:DAt W (Off b v) aa args.length (zaw args)) (hl:ts.length+(zb0 op m nm (tEs args)).length<=4000000000000) :
 Calls Tryz.prog 125 #[.pointer (some ⟨b,0,none⟩),.agg #[.int .i64 op,.string m,.string nm,.slice aa args.length cap,vb,vo]] W (zim b ts v W (zb0 op m nm (tEs args))):=by
 have hX:∀ a ∈ args,WrE a:=fun a ha=>zrw (hx a ha)
 rcases zl9 h1 with rfl | rfl | rfl | rfl | rfl | rfl | rfl
 . obtain ⟨r1,r2⟩:=zbs rfl h2
   obtain ⟨x,rfl⟩:=ze3 h3 rfl rfl
   have e:zb0 1 m nm (tEs [x])=refT m nm++kTk tEq :: tE x:=by simp [tEs,zb0]
   rw [e] at hl ⊢;exact z15 m nm vb vo x (hX x (by simp)) b ts v W aa cap hW hA r1 r2 (by simp at hl;omega)
 . obtain ⟨r1,r2⟩:=zbs rfl h2
   obtain ⟨x,y,rfl⟩:=zdr h3 rfl rfl
   have e:zb0 2 m nm (tEs [x,y])=refT m nm++kTk tLs :: (tE x++kTk tRs :: kTk tEq :: tE y):=by simp [tEs,zb0]
   rw [e] at hl ⊢;exact z16 m nm vb vo x y (hX x (by simp)) (hX y (by simp)) b ts v W aa cap hW hA r1 r2 (by simp at hl;omega)
 . obtain ⟨r1,r2⟩:=zbs rfl h2
   have e:zb0 3 m nm (tEs args)=refT m nm++kTk tLp :: (commas (tEs args)++[kTk tRp]):=by simp [zb0]
   rw [e] at hl ⊢;exact z17 m nm vb vo args hX (by have:=zrv h3 (by decide);omega) b ts v W aa cap hW hA r1 r2 (by simp at hl;omega)
 . exact absurd rfl h4
 . exact absurd rfl h5
 . obtain ⟨x,rfl⟩:=ze3 h3 rfl rfl
   have e:zb0 6 m nm (tEs [x])=kTk tReturn :: tE x:=by simp [tEs,zb0]
   rw [e] at hl ⊢;exact z18 m nm vb vo x (hX x (by simp)) b ts v W aa cap hW hA (by simp at hl;omega)
 . obtain ⟨x,rfl⟩:=ze3 h3 rfl rfl
   have e:zb0 7 m nm (tEs [x])=kTk tOut :: tE x:=by simp [tEs,zb0]
   rw [e] at hl ⊢;exact z19 m nm vb vo x (hX x (by simp)) b ts v W aa cap hW hA (by simp at hl;omega)
end Go.Proofs.YtcekpobmbmnplaaGreatDoor

namespace Go.Proofs.YtcekpobmbmnplaaGreatDoor
set_option maxRecDepth 100000
set_option maxHeartbeats 1600000
open Go.RowKit Go.Shelf
def Cut (d ts ts':List Tk):Prop:=ts'=ts++d\/(4096<ts'.length/\ts'.length<=ts.length+d.length/\(zam ts->zam ts'))
theorem Cut.len {d ts ts':List Tk} (h:Cut d ts ts'):ts'.length<=ts.length+d.length:=by
 rcases h with rfl | h
 . simp
 . exact h.2.1
theorem Cut.right {d ts ts':List Tk} (h:Cut d ts ts') (hd:zam d) (ht:zam ts):zam ts':=by
 rcases h with rfl | h
 . exact ht.append hd
 . exact h.2.2 ht
theorem Cut.trans2 {d d' ts t1 t2:List Tk} (h:Cut d ts t1) (k:Cut d' t1 t2) (r:zam d) (r':zam d'):Cut (d++d') ts t2:=by
 rcases h with rfl | h
 . rcases k with rfl | k
   . exact Or.inl (List.append_assoc _ _ _)
   . refine Or.inr ⟨k.1,?_,fun ht=>k.2.2 (ht.append r)⟩
     have:=k.2.1;simp only [List.length_append] at this ⊢;omega
 . have hk:=k.len
   refine Or.inr ⟨?_,?_,fun ht=>k.right r' (h.2.2 ht)⟩
   . rcases k with rfl | k
     . have:=h.1
       simp only [List.length_append];omega
     . exact k.1
   . have:=h.2.1
     simp only [List.length_append];omega
def zjr (d ts ts':List Tk):Prop:=Cut d ts ts'/\zam d
theorem zgs {t:ByteArray} (h:(Lx.headLet t.data.toList == Lx.nameB t.data.toList&&(Lx.nameB t.data.toList||Lx.signL t.data.toList))=true):zam [pTk t]:=by
 simp only [Bool.and_eq_true,beq_iff_eq] at h;rw [pk h.1];exact zby h.2
def zqn (b:Nat) (ts:List Tk) (v:Value) (W:World) (d:List Tk) (e:Ending) (W':World):Prop:=∃ ts' v',e = .returned (.tuple #[])/\Wr b ts' v' W'/\WK b v v' W W'/\Cut d ts ts'
theorem zs7 (b:Nat) (ts:List Tk) (v:Value) (W:World) (h:Wr b ts v W) (hl:ts.length<=4000000000000) :
 Calls Tryz.prog 100 #[.pointer (some ⟨b,0,none⟩)] W fun e W'=>e = .returned (.bool (decide (4096<ts.length)))/\W'=W:=by
 obtain ⟨c0,_⟩:=h.read;have hlt:=h.lt;obtain ⟨a,cap,rfl⟩:=h.shape;clear h;go_enter Tryz.func100,Tryz.ntmps100;go_wp2_with fail;go_ret;refine ⟨zaa ?_,rfl⟩
 by_cases h:4096<ts.length
 . simp [h];try omega
 . simp [h];try omega
def WrS (s:St):Prop:=∀ (b:Nat) (ts:List Tk) (v:Value) (W:World) (a1 a2 a3:Option Addr) (c1 c2 c3:Nat),Wr b ts v W->DAt W (Off b v) a1 s.args.length (zaw s.args)->DAt W (Off b v) a2 s.body.length (za0 s.body)->DAt W (Off b v) a3 s.other.length (za0 s.other)->ts.length+(tS s).length<=4000000000000->
    Calls Tryz.prog 101 #[.pointer (some ⟨b,0,none⟩),.agg #[.int .i64 s.op,.string s.mod,.string s.name,.slice a1 s.args.length c1,.slice a2 s.body.length c2,.slice a3 s.other.length c3]] W (zqn b ts v W (tS s))
def WrB (l:List St):Prop:=∀ (b:Nat) (ts:List Tk) (v:Value) (W:World) (a:Option Addr) (cap:Nat),Wr b ts v W->DAt W (Off b v) a l.length (za0 l)->ts.length+(brT (tSs l)).length<=4000000000000->
    Calls Tryz.prog 62 #[.pointer (some ⟨b,0,none⟩),.slice a l.length cap] W (zqn b ts v W (brT (tSs l)))
theorem zrx (l:List St) (k:Nat):(tSs (l.take k)).length<=(tSs l).length:=by
 have:tSs l=tSs (l.take k)++tSs (l.drop k):=by rw [← zew,List.take_append_drop]
 rw [this,List.length_append];omega
theorem zx2 {l:List St} {k:Nat} (h:k<l.length):tSs (l.take (k+1))=tSs (l.take k)++tS l[k]:=by
 rw [List.take_succ_eq_append_getElem h,zew,zp4]
theorem zqo (l:List St) (hS:∀ s ∈ l,WrS s) (hr:∀ s ∈ l,zam (tS s)):WrB l:=by
 intro b ts v0 W a cap h hA hl;have hbd:=hA.bound;have HS:=hid hS;have HR:=hid hr;have HA:=hid hA;have HH:=hid h
 have hll:ts.length+(tSs l).length+2<=4000000000000:=by
  unfold brT at hl;simp only [List.length_append,List.length_cons,List.length_nil] at hl;omega
 have HE:Hid (brT (tSs l)=[pTk tLb]++tSs l++[pTk tRb]):=by
  show _=_;unfold brT
  rw [pk (t:=tLb) (by decide),pk (t:=tRb) (by decide)];simp
 have HRa:Hid (∀ k,zam (tSs (l.take k))):=fun k=>zvl (fun s hs=>hr s (List.mem_of_mem_take hs))
 clear hS hr hA h hl;go_enter Tryz.func62,Tryz.ntmps62;go_wp2_with fail;refine (zg7 b _ tLb ts v0 W rfl HH.out (by decide) (by omega)).mono ?_;rintro e W1 ⟨v1,rfl,hh,kk⟩;have H1:=hid hh;have K1:=hid kk;clear hh kk HH;go_wp2_with fail
 go_loopw [11,5] (fun i _ wr=>∃ (k:Nat) (vr:Value) (T:List Tk),k<=l.length/\i = .int .i64 k/\Wr b T vr wr/\WK b v0 vr W wr/\Hid (Cut ([pTk tLb]++tSs (l.take k)) ts T)) (fun i _ _=>l.length - (intOf i).toNat)
 case atStart=>exact ⟨0,v1,_,Nat.zero_le _,rfl,H1.out,K1.out,Or.inl (by simp [tSs])⟩
 case round=>
  clear H1 K1;obtain ⟨k,vr,T,hk,rfl,hW,hK,HC⟩:=hrel;have HW:=hid hW;have HK:=hid hK;have hltr:=hW.lt;have hT:=HC.out.len;have hTk:=zrx l k;simp only [List.length_append,List.length_cons,List.length_nil] at hT
  by_cases hkl:k<l.length
  . obtain ⟨eb,eo,e1,f1,e2,f2,e3,f3,rfl,hx⟩:=(HA.out.moves hK.moves).st k hkl
    have HXk:=hid (HS.out l[k] (List.getElem_mem hkl));have q0:=hx.c0;have q1:=hx.c1;have q2:=hx.c2;have q3:=hx.c3;have q4:=hx.c4;have q5:=hx.c5;have hle:=hx.lt;have HT:Hid (tSs (l.take (k+1))=tSs (l.take k)++tS l[k]):=zx2 hkl;have hTn:=zrx l (k+1);rw [HT.out,List.length_append] at hTn
    obtain ⟨Wb,hWb⟩:∃ Wb,Wb=wr.alloc (.cells #[.int .i64 l[k].op,.string l[k].mod,.string l[k].name,.slice e1 l[k].args.length f1,.slice e2 l[k].body.length f2,.slice e3 l[k].other.length f3] 47):=⟨_,rfl⟩
    obtain ⟨x0,x1,x2,x3,x4,x5⟩:=zwk wr (.int .i64 l[k].op) (.string l[k].mod) (.string l[k].name) (.slice e1 l[k].args.length f1) (.slice e2 l[k].body.length f2) (.slice e3 l[k].other.length f3) 47;rw [← hWb] at x0 x1 x2 x3 x4 x5
    have HWb:Hid (Wr b T vr Wb):=by rw [hWb];exact hW.alloc _
    have KWb:Hid (WK b vr vr wr Wb):=by rw [hWb];exact WK.of_below (al1 _ _) b vr
    have DA:Hid (DAt Wb (Off b vr) e1 l[k].args.length (zaw l[k].args)):=by rw [hWb];exact hx.args.moves (Moves.of_below (al1 _ _) _)
    have DB:Hid (DAt Wb (Off b vr) e2 l[k].body.length (za0 l[k].body)):=by rw [hWb];exact hx.body.moves (Moves.of_below (al1 _ _) _)
    have DO:Hid (DAt Wb (Off b vr) e3 l[k].other.length (za0 l[k].other)):=by rw [hWb];exact hx.other.moves (Moves.of_below (al1 _ _) _)
    have hzb:Wb.heap.size=wr.heap.size+1:=by rw [hWb];simp
    have hltb:b<Wb.heap.size:=by omega
    have hxb:wr.heap.size<Wb.heap.size:=by omega
    clear hW hK hx;go_upto_region 4 with fail;rw [← hWb];clear hWb;go_wp2_with fail;refine (zs7 b T vr Wb HWb.out (by omega)).mono ?_
    cases hfu:decide (4096<T.length) with
    | true=>
      have hfu':=of_decide_eq_true hfu;rintro e W2 ⟨rfl,rfl⟩;have HCe:Hid (Cut (brT (tSs l)) ts T):=Or.inr ⟨hfu',by rw [HE.out];simp only [List.length_append,List.length_cons,List.length_nil];omega,fun ht=>HC.out.right ((zgs (by decide)).append (HRa.out k)) ht⟩;clear hfu hfu';go_wp2_with fail;go_end0;exact ⟨T,vr,rfl,HWb.out,HK.out.trans KWb.out,HCe.out⟩
    | false=>
      rintro e W2 ⟨rfl,rfl⟩;clear hfu;go_wp2_with fail;refine (HXk.out b T vr _ e1 e2 e3 f1 f2 f3 HWb.out DA.out DB.out DO.out (by omega)).mono ?_;rintro e W3 ⟨T3,v3,rfl,hh,kk,hc⟩;have H3:=hid hh;have K3:=hid ((HK.out.trans KWb.out).trans kk)
      have C3:Hid (Cut ([pTk tLb]++tSs (l.take (k+1))) ts T3):=by
       show Cut _ _ _;rw [HT.out,← List.append_assoc];exact HC.out.trans2 hc ((zgs (by decide)).append (HRa.out k)) (HR.out _ (List.getElem_mem hkl))
      clear hh kk hc;go_wp2_with fail;go_roundw
      case rel=>exact ⟨k+1,v3,T3,by omega,by go_num,H3.out,K3.out,C3⟩
      case measure=>simp [intOf];omega
  . have hke:l.take k=l:=List.take_of_length_le (by omega)
    rw [hke] at HC hT
    have HRl:Hid (zam (tSs l)):=by have:=HRa.out k;rw [hke] at this;exact this
    clear hW hK;go_wp2_with fail;refine (zg7 b _ tRb T vr wr (by omega) HW.out (by decide) (by omega)).mono ?_;rintro e W5 ⟨v5,rfl,hh,kk⟩;have H5:=hid hh;have K5:=hid (HK.out.trans kk)
    have C5:Hid (Cut (brT (tSs l)) ts (T++[pTk tRb])):=by
     show Cut _ _ _;rw [HE.out];exact HC.out.trans2 (Or.inl rfl) ((zgs (by decide)).append HRl.out) (zgs (by decide))
    clear hh kk;go_wp2_with fail;go_end0;exact ⟨_,v5,rfl,H5.out,K5.out,C5.out⟩
end Go.Proofs.YtcekpobmbmnplaaGreatDoor
