import Derived.Test.YtndkhgakfodldaaGreatDoorYa
namespace Go.Proofs.YtndkhgakfodldaaGreatDoor
set_option maxRecDepth 100000
set_option maxHeartbeats 1600000
open Go.RowKit Go.Maps Go.WideMaps
set_option linter.unusedSimpArgs false
set_option linter.unusedVariables false
abbrev nC (a b c e:Int) (f:OA) (g:List Nd) (h:Nat):Obj:=.cells #[.int .i64 a,.int .i64 b,.int .i64 c,.int .i64 e,.slice f g.length h] 253
theorem zfi {w0:World} {A:Nat->Prop} {aa:OA} {l:List Nd} (hD:DAt w0 A aa l.length (zd5 l)) (i:Nat) (hi:i<l.length):∃ b off a1 k1,aa=some ⟨b,off,none⟩/\DAt w0 A a1 (argN l i).args.length (zd5 (argN l i).args)/\
 ∀ W,Below w0.heap.size w0 W->W.cell? ⟨b,off+i*5,none⟩=some (.int .i64 (argN l i).op)/\W.cell? ⟨b,off+i*5+1,none⟩=some (.int .i64 (argN l i).n)/\W.cell? ⟨b,off+i*5+2,none⟩=some (.int .i64 (argN l i).m)/\W.cell? ⟨b,off+i*5+3,none⟩=some (.int .i64 (argN l i).at_)/\W.cell? ⟨b,off+i*5+4,none⟩=some (.slice a1 (argN l i).args.length k1):=by
 rw [zhu l i hi];obtain ⟨b,off,a1,k1,ha,hx⟩:=hD.nd i hi;refine ⟨b,off,a1,k1,ha,hx.args',fun W hW=>⟨?_,?_,?_,?_,?_⟩⟩
 . exact (hW.cell (p:=⟨b,_,none⟩) hx.lt).trans hx.c0
 . exact (hW.cell (p:=⟨b,_,none⟩) hx.lt).trans hx.c1
 . exact (hW.cell (p:=⟨b,_,none⟩) hx.lt).trans hx.c2
 . exact (hW.cell (p:=⟨b,_,none⟩) hx.lt).trans hx.c3
 . exact (hW.cell (p:=⟨b,_,none⟩) hx.lt).trans hx.c4
theorem zc9 {w0:World} {R k:Nat} {l:List Nd} (h:∀ y ∈ l,NdC w0 R k y) (i:Nat) (hi:i<l.length):NdC w0 R k (argN l i):=by
 rw [zhu l i hi];exact h _ (vap hi)
theorem z9y {w0 w:World} {R k:Nat} {K:List (Nat × Obj)} {s:Wrt} {A:Nat->Prop} {op n m at_:Int} {args:List Nd} {aa:OA} {cp:Nat} (hN:∀ y ∈ args,NdC w0 R k y) (hD:DAt w0 A aa args.length (zd5 args)) (h:Wri w0 w R K s) (ho:op=1) (hr:(zb1 1 n 0 s).code.length<=1000000) :
 Calls Tryz.prog 216 #[.pointer (some ⟨R,0,none⟩),.agg #[.int .i64 op,.int .i64 n,.int .i64 m,.int .i64 at_,.slice aa args.length cp]] w fun e w'=>e = .returned (.tuple #[])/\Wri w0 w' R K (zb1 1 n 0 s):=by
 have HW:Hid (Wri w0 (w.alloc (nC op n m at_ aa args cp)) R ((w.heap.size,(nC op n m at_ aa args cp)) :: K) s):=h.box (nC op n m at_ aa args cp);subst ho
 have hr0:s.code.length<=1000000:=by simp only [zah,za9] at hr;omega
 clear h hN hD;go_enter Tryz.func216,Tryz.ntmps216;go_wp2_with fail;refine (zcd 1 n 0 HW.out hr0).mono ?_;rintro e w1 ⟨rfl,h1⟩;have H1:=hid h1;clear h1;go_wp2_with fail;go_end0;exact ⟨rfl,H1.out.tail⟩
theorem z9z {w0 w:World} {R k:Nat} {K:List (Nat × Obj)} {s:Wrt} {A:Nat->Prop} {op n m at_:Int} {args:List Nd} {aa:OA} {cp:Nat} (hN:∀ y ∈ args,NdC w0 R k y) (hD:DAt w0 A aa args.length (zd5 args)) (h:Wri w0 w R K s) (ho:op=2) (hr:(zb1 18 0 0 s).code.length<=1000000) :
 Calls Tryz.prog 216 #[.pointer (some ⟨R,0,none⟩),.agg #[.int .i64 op,.int .i64 n,.int .i64 m,.int .i64 at_,.slice aa args.length cp]] w fun e w'=>e = .returned (.tuple #[])/\Wri w0 w' R K (zb1 18 0 0 s):=by
 have HW:Hid (Wri w0 (w.alloc (nC op n m at_ aa args cp)) R ((w.heap.size,(nC op n m at_ aa args cp)) :: K) s):=h.box (nC op n m at_ aa args cp);subst ho
 have hr0:s.code.length<=1000000:=by simp only [zah,za9] at hr;omega
 clear h hN hD;go_enter Tryz.func216,Tryz.ntmps216;go_wp2_with fail;refine (zcd 18 0 0 HW.out hr0).mono ?_;rintro e w1 ⟨rfl,h1⟩;have H1:=hid h1;clear h1;go_wp2_with fail;go_end0;exact ⟨rfl,H1.out.tail⟩
theorem z8d {w0 w:World} {R k:Nat} {K:List (Nat × Obj)} {s:Wrt} {A:Nat->Prop} {op n m at_:Int} {args:List Nd} {aa:OA} {cp:Nat} (hN:∀ y ∈ args,NdC w0 R k y) (hD:DAt w0 A aa args.length (zd5 args)) (h:Wri w0 w R K s) (ho:op=16) (hr:(zb1 2 at_ 0 s).code.length<=1000000) :
 Calls Tryz.prog 216 #[.pointer (some ⟨R,0,none⟩),.agg #[.int .i64 op,.int .i64 n,.int .i64 m,.int .i64 at_,.slice aa args.length cp]] w fun e w'=>e = .returned (.tuple #[])/\Wri w0 w' R K (zb1 2 at_ 0 s):=by
 have HW:Hid (Wri w0 (w.alloc (nC op n m at_ aa args cp)) R ((w.heap.size,(nC op n m at_ aa args cp)) :: K) s):=h.box (nC op n m at_ aa args cp);subst ho
 have hr0:s.code.length<=1000000:=by simp only [zah,za9] at hr;omega
 clear h hN hD;go_enter Tryz.func216,Tryz.ntmps216;go_wp2_with fail;refine (zcd 2 at_ 0 HW.out hr0).mono ?_;rintro e w1 ⟨rfl,h1⟩;have H1:=hid h1;clear h1;go_wp2_with fail;go_end0;exact ⟨rfl,H1.out.tail⟩
theorem z90 {w0 w:World} {R k:Nat} {K:List (Nat × Obj)} {s:Wrt} {A:Nat->Prop} {op n m at_:Int} {args:List Nd} {aa:OA} {cp:Nat} (hN:∀ y ∈ args,NdC w0 R k y) (hD:DAt w0 A aa args.length (zd5 args)) (h:Wri w0 w R K s) (ho:op=3) (hr:(zvf 3 m ⟨4,at_,0⟩ s).code.length<=1000000) :
 Calls Tryz.prog 216 #[.pointer (some ⟨R,0,none⟩),.agg #[.int .i64 op,.int .i64 n,.int .i64 m,.int .i64 at_,.slice aa args.length cp]] w fun e w'=>e = .returned (.tuple #[])/\Wri w0 w' R K (zvf 3 m ⟨4,at_,0⟩ s):=by
 have HW:Hid (Wri w0 (w.alloc (nC op n m at_ aa args cp)) R ((w.heap.size,(nC op n m at_ aa args cp)) :: K) s):=h.box (nC op n m at_ aa args cp);subst ho
 have hr0:s.code.length<=1000000:=by simp only [zah,za9] at hr;omega
 clear h hN hD;go_enter Tryz.func216,Tryz.ntmps216;go_wp2_with fail;refine (zeu 3 m 4 at_ 0 HW.out hr0).mono ?_;rintro e w1 ⟨rfl,h1⟩;have H1:=hid h1;clear h1;go_wp2_with fail;go_end0;exact ⟨rfl,H1.out.tail⟩
theorem z91 {w0 w:World} {R k:Nat} {K:List (Nat × Obj)} {s:Wrt} {A:Nat->Prop} {op n m at_:Int} {args:List Nd} {aa:OA} {cp:Nat} (hN:∀ y ∈ args,NdC w0 R k y) (hD:DAt w0 A aa args.length (zd5 args)) (h:Wri w0 w R K s) (ho:op=4) (hl:args.length=1) (hr:(zb1 7 0 0 (zn7 (ndW k (argN args 0)) n m at_ s)).code.length<=1000000) :
 Calls Tryz.prog 216 #[.pointer (some ⟨R,0,none⟩),.agg #[.int .i64 op,.int .i64 n,.int .i64 m,.int .i64 at_,.slice aa args.length cp]] w fun e w'=>e = .returned (.tuple #[])/\Wri w0 w' R K (zb1 7 0 0 (zn7 (ndW k (argN args 0)) n m at_ s)):=by
 have HW:Hid (Wri w0 (w.alloc (nC op n m at_ aa args cp)) R ((w.heap.size,(nC op n m at_ aa args cp)) :: K) s):=h.box (nC op n m at_ aa args cp);subst ho
 have hr0:(ndW k (argN args 0) s).code.length+1<=1000000:=by simp only [zah,zn7,za9] at hr;omega
 obtain ⟨b,off,a1,k1,rfl,hA,hc⟩:=zfi hD 0 (by omega);simp only [vbo,vbw] at hc;have hy:=zc9 hN 0 (by omega);generalize argN args 0=y at *;have HA:=hid hA;have HY:=hid hy
 have HS:Hid (∀ W s',Wri w0 W R ((w.heap.size,(.cells #[.int .i64 4,.int .i64 n,.int .i64 m,.int .i64 at_,.slice (some ⟨b,off,none⟩) args.length cp] 253)) :: K) s'->W.cell? ⟨w.heap.size,1,none⟩=some (.int .i64 n)/\W.cell? ⟨w.heap.size,2,none⟩=some (.int .i64 m)/\W.cell? ⟨w.heap.size,3,none⟩=some (.int .i64 at_)/\W.cell? ⟨w.heap.size,4,none⟩=some (.slice (some ⟨b,off,none⟩) args.length cp)/\W.cell? ⟨b,off,none⟩=some (.int .i64 y.op)/\W.cell? ⟨b,off+1,none⟩=some (.int .i64 y.n)/\W.cell? ⟨b,off+2,none⟩=some (.int .i64 y.m)/\W.cell? ⟨b,off+3,none⟩=some (.int .i64 y.at_)/\W.cell? ⟨b,off+4,none⟩=some (.slice a1 y.args.length k1)):=fun W s' hW=>by
  obtain ⟨q0,q1,q2,q3,q4, -⟩:=zad hW.head;obtain ⟨z0,z1,z2,z3,z4⟩:=hc W hW.below;exact ⟨q1,q2,q3,q4,z0,z1,z2,z3,z4⟩
 have HD:=hid HW.out.drew
 have hl0:0<args.length:=by omega
 clear h hN hD hA hy hc hl;go_enter Tryz.func216,Tryz.ntmps216;go_upto_region 13 with fail
 go_region_held (fun W=>W.cell? ⟨w.heap.size,1,none⟩=some (.int .i64 n)/\W.cell? ⟨w.heap.size,2,none⟩=some (.int .i64 m)/\W.cell? ⟨w.heap.size,3,none⟩=some (.int .i64 at_)/\W.cell? ⟨w.heap.size,4,none⟩=some (.slice (some ⟨b,off,none⟩) args.length cp)/\W.cell? ⟨b,off,none⟩=some (.int .i64 y.op)/\W.cell? ⟨b,off+1,none⟩=some (.int .i64 y.n)/\W.cell? ⟨b,off+2,none⟩=some (.int .i64 y.m)/\W.cell? ⟨b,off+3,none⟩=some (.int .i64 y.at_)/\W.cell? ⟨b,off+4,none⟩=some (.slice a1 y.args.length k1)) (first | with_reducible exact HS.out _ _ HW.out | with_reducible exact HS.out _ _ HD.out | with_reducible exact HS.out _ _ H1.out)
  (first
    | (go_at_call 215;refine (zpp n m at_ HY.out HA.out HD.out (by omega)).mono ?_;rintro e w1 ⟨rfl,h1⟩;have H1:=hid h1;clear h1))
 all_goals
  go_wp2_with fail;refine (zcd 7 0 0 H1.out (by simp only [zn7,za9];omega)).mono ?_;rintro e w2 ⟨rfl,h2⟩;have H2:=hid h2;clear h2;go_wp2_with fail;go_end0;exact ⟨rfl,H2.out.tail⟩
theorem z92 {w0 w:World} {R k:Nat} {K:List (Nat × Obj)} {s:Wrt} {A:Nat->Prop} {op n m at_:Int} {args:List Nd} {aa:OA} {cp:Nat} (hN:∀ y ∈ args,NdC w0 R k y) (hD:DAt w0 A aa args.length (zd5 args)) (h:Wri w0 w R K s) (ho:op=5) (hr:(zh3 (zh2 (ndW k) args) m at_ s).code.length<=1000000) :
 Calls Tryz.prog 216 #[.pointer (some ⟨R,0,none⟩),.agg #[.int .i64 op,.int .i64 n,.int .i64 m,.int .i64 at_,.slice aa args.length cp]] w fun e w'=>e = .returned (.tuple #[])/\Wri w0 w' R K (zh3 (zh2 (ndW k) args) m at_ s):=by
 have HW:Hid (Wri w0 (w.alloc (nC op n m at_ aa args cp)) R ((w.heap.size,(nC op n m at_ aa args cp)) :: K) s):=h.box (nC op n m at_ aa args cp);subst ho
 have hr0:(zh2 (ndW k) args s).code.length<=1000000:=by simp only [zh3,za9] at hr;omega
 have HC:=hid (ztd (cap:=cp) m at_ hN hD HW.out hr0);clear h hN hD;go_enter Tryz.func216,Tryz.ntmps216;go_wp2_with fail;refine (HC.out).mono ?_;rintro e w1 ⟨rfl,h1⟩;have H1:=hid h1;clear h1;go_wp2_with fail;go_end0;exact ⟨rfl,H1.out.tail⟩
theorem z93 {w0 w:World} {R k:Nat} {K:List (Nat × Obj)} {s:Wrt} {A:Nat->Prop} {op n m at_:Int} {args:List Nd} {aa:OA} {cp:Nat} (hN:∀ y ∈ args,NdC w0 R k y) (hD:DAt w0 A aa args.length (zd5 args)) (h:Wri w0 w R K s) (ho:op=6) (hl:args.length=1) (hr:(zb1 9 0 0 (ndW k (argN args 0) s)).code.length<=1000000) :
 Calls Tryz.prog 216 #[.pointer (some ⟨R,0,none⟩),.agg #[.int .i64 op,.int .i64 n,.int .i64 m,.int .i64 at_,.slice aa args.length cp]] w fun e w'=>e = .returned (.tuple #[])/\Wri w0 w' R K (zb1 9 0 0 (ndW k (argN args 0) s)):=by
 have HW:Hid (Wri w0 (w.alloc (nC op n m at_ aa args cp)) R ((w.heap.size,(nC op n m at_ aa args cp)) :: K) s):=h.box (nC op n m at_ aa args cp);subst ho
 have hr0:(ndW k (argN args 0) s).code.length<=1000000:=by simp only [zah] at hr;omega
 obtain ⟨b,off,a1,k1,rfl,hA,hc⟩:=zfi hD 0 (by omega);simp only [vbo,vbw] at hc;have hy:=zc9 hN 0 (by omega);generalize argN args 0=y at *;have HC:=hid (hy A a1 k1 _ _ _ hA HW.out hr0);obtain ⟨z0,z1,z2,z3,z4⟩:=hc _ h.below
 have hb:b<w.heap.size:=by
  rcases vbj b w.heap.size with h' | h'
  . exact h'
  . simp [World.cell?,vbf h'] at z0
 have hl0:0<args.length:=by omega
 clear h hN hD hA hy hc hl;go_enter Tryz.func216,Tryz.ntmps216;go_wp2_with fail;refine (HC.out).mono ?_;rintro e w1 ⟨rfl,h1⟩;have H1:=hid h1;clear h1;clear z0 z1 z2 z3 z4;go_wp2_with fail;refine (zcd 9 0 0 H1.out hr0).mono ?_;rintro e w2 ⟨rfl,h2⟩;have H2:=hid h2;clear h2;go_wp2_with fail;go_end0;exact ⟨rfl,H2.out.tail⟩
theorem z94 {w0 w:World} {R k:Nat} {K:List (Nat × Obj)} {s:Wrt} {A:Nat->Prop} {op n m at_:Int} {args:List Nd} {aa:OA} {cp:Nat} (hN:∀ y ∈ args,NdC w0 R k y) (hD:DAt w0 A aa args.length (zd5 args)) (h:Wri w0 w R K s) (ho:op=7) (hl:args.length=2) (hr:(z15 (ndW k (argN args 0)) (ndW k (argN args 1)) s).code.length<=1000000) :
 Calls Tryz.prog 216 #[.pointer (some ⟨R,0,none⟩),.agg #[.int .i64 op,.int .i64 n,.int .i64 m,.int .i64 at_,.slice aa args.length cp]] w fun e w'=>e = .returned (.tuple #[])/\Wri w0 w' R K (z15 (ndW k (argN args 0)) (ndW k (argN args 1)) s):=by
 have HW:Hid (Wri w0 (w.alloc (nC op n m at_ aa args cp)) R ((w.heap.size,(nC op n m at_ aa args cp)) :: K) s):=h.box (nC op n m at_ aa args cp);subst ho;obtain ⟨b,off,a1,k1,rfl,hA,hc⟩:=zfi hD 0 (by omega);obtain ⟨b',off',a2,k2,hbb,hB,hd⟩:=zfi hD 1 (by omega);cases hbb;simp only [vbo,vbw] at hc;simp only [vdn] at hd;have hy:=zc9 hN 0 (by omega);have hz:=zc9 hN 1 (by omega);generalize argN args 0=y at *;generalize argN args 1=z at *;have HC:=hid (z44 (cx:=k1) (cy:=k2) hy hz hA hB HW.out.drew hr)
 have HS:Hid (∀ W s',Wri w0 W R ((w.heap.size,(.cells #[.int .i64 7,.int .i64 n,.int .i64 m,.int .i64 at_,.slice (some ⟨b,off,none⟩) args.length cp] 253)) :: K) s'->W.cell? ⟨w.heap.size,4,none⟩=some (.slice (some ⟨b,off,none⟩) args.length cp)/\W.cell? ⟨b,off,none⟩=some (.int .i64 y.op)/\W.cell? ⟨b,off+1,none⟩=some (.int .i64 y.n)/\W.cell? ⟨b,off+2,none⟩=some (.int .i64 y.m)/\W.cell? ⟨b,off+3,none⟩=some (.int .i64 y.at_)/\W.cell? ⟨b,off+4,none⟩=some (.slice a1 y.args.length k1)/\W.cell? ⟨b,off+5,none⟩=some (.int .i64 z.op)/\W.cell? ⟨b,off+5+1,none⟩=some (.int .i64 z.n)/\W.cell? ⟨b,off+5+2,none⟩=some (.int .i64 z.m)/\W.cell? ⟨b,off+5+3,none⟩=some (.int .i64 z.at_)/\W.cell? ⟨b,off+5+4,none⟩=some (.slice a2 z.args.length k2)):=fun W s' hW=>by
  obtain ⟨q0,q1,q2,q3,q4, -⟩:=zad hW.head;obtain ⟨z0,z1,z2,z3,z4⟩:=hc W hW.below;obtain ⟨y0,y1,y2,y3,y4⟩:=hd W hW.below;exact ⟨q4,z0,z1,z2,z3,z4,y0,y1,y2,y3,y4⟩
 have HD:=hid HW.out.drew
 have hl0:1<args.length:=by omega
 clear h hN hD hA hB hy hz hc hd hl;go_enter Tryz.func216,Tryz.ntmps216;go_upto_region 21 with fail
 go_region_held (fun W=>W.cell? ⟨w.heap.size,4,none⟩=some (.slice (some ⟨b,off,none⟩) args.length cp)/\W.cell? ⟨b,off,none⟩=some (.int .i64 y.op)/\W.cell? ⟨b,off+1,none⟩=some (.int .i64 y.n)/\W.cell? ⟨b,off+2,none⟩=some (.int .i64 y.m)/\W.cell? ⟨b,off+3,none⟩=some (.int .i64 y.at_)/\W.cell? ⟨b,off+4,none⟩=some (.slice a1 y.args.length k1)/\W.cell? ⟨b,off+5,none⟩=some (.int .i64 z.op)/\W.cell? ⟨b,off+5+1,none⟩=some (.int .i64 z.n)/\W.cell? ⟨b,off+5+2,none⟩=some (.int .i64 z.m)/\W.cell? ⟨b,off+5+3,none⟩=some (.int .i64 z.at_)/\W.cell? ⟨b,off+5+4,none⟩=some (.slice a2 z.args.length k2)) (first | with_reducible exact HS.out _ _ HW.out | with_reducible exact HS.out _ _ HD.out | with_reducible exact HS.out _ _ H1.out)
  (first
    | (go_at_call 271;refine HC.out.mono ?_;rintro e w1 ⟨rfl,h1⟩;have H1:=hid h1;clear h1))
 all_goals
  go_wp2_with fail;go_end0;exact ⟨rfl,H1.out.tail⟩
theorem z95 {w0 w:World} {R k:Nat} {K:List (Nat × Obj)} {s:Wrt} {A:Nat->Prop} {op n m at_:Int} {args:List Nd} {aa:OA} {cp:Nat} (hN:∀ y ∈ args,NdC w0 R k y) (hD:DAt w0 A aa args.length (zd5 args)) (h:Wri w0 w R K s) (ho:op=8) (hl:args.length=2) (hr:(orW (ndW k (argN args 0)) (ndW k (argN args 1)) s).code.length<=1000000) :
 Calls Tryz.prog 216 #[.pointer (some ⟨R,0,none⟩),.agg #[.int .i64 op,.int .i64 n,.int .i64 m,.int .i64 at_,.slice aa args.length cp]] w fun e w'=>e = .returned (.tuple #[])/\Wri w0 w' R K (orW (ndW k (argN args 0)) (ndW k (argN args 1)) s):=by
 have HW:Hid (Wri w0 (w.alloc (nC op n m at_ aa args cp)) R ((w.heap.size,(nC op n m at_ aa args cp)) :: K) s):=h.box (nC op n m at_ aa args cp);subst ho;obtain ⟨b,off,a1,k1,rfl,hA,hc⟩:=zfi hD 0 (by omega);obtain ⟨b',off',a2,k2,hbb,hB,hd⟩:=zfi hD 1 (by omega);cases hbb;simp only [vbo,vbw] at hc;simp only [vdn] at hd;have hy:=zc9 hN 0 (by omega);have hz:=zc9 hN 1 (by omega);generalize argN args 0=y at *;generalize argN args 1=z at *;have HC:=hid (z7o (cx:=k1) (cy:=k2) hy hz hA hB HW.out.drew hr)
 have HS:Hid (∀ W s',Wri w0 W R ((w.heap.size,(.cells #[.int .i64 8,.int .i64 n,.int .i64 m,.int .i64 at_,.slice (some ⟨b,off,none⟩) args.length cp] 253)) :: K) s'->W.cell? ⟨w.heap.size,4,none⟩=some (.slice (some ⟨b,off,none⟩) args.length cp)/\W.cell? ⟨b,off,none⟩=some (.int .i64 y.op)/\W.cell? ⟨b,off+1,none⟩=some (.int .i64 y.n)/\W.cell? ⟨b,off+2,none⟩=some (.int .i64 y.m)/\W.cell? ⟨b,off+3,none⟩=some (.int .i64 y.at_)/\W.cell? ⟨b,off+4,none⟩=some (.slice a1 y.args.length k1)/\W.cell? ⟨b,off+5,none⟩=some (.int .i64 z.op)/\W.cell? ⟨b,off+5+1,none⟩=some (.int .i64 z.n)/\W.cell? ⟨b,off+5+2,none⟩=some (.int .i64 z.m)/\W.cell? ⟨b,off+5+3,none⟩=some (.int .i64 z.at_)/\W.cell? ⟨b,off+5+4,none⟩=some (.slice a2 z.args.length k2)):=fun W s' hW=>by
  obtain ⟨q0,q1,q2,q3,q4, -⟩:=zad hW.head;obtain ⟨z0,z1,z2,z3,z4⟩:=hc W hW.below;obtain ⟨y0,y1,y2,y3,y4⟩:=hd W hW.below;exact ⟨q4,z0,z1,z2,z3,z4,y0,y1,y2,y3,y4⟩
 have HD:=hid HW.out.drew
 have hl0:1<args.length:=by omega
 clear h hN hD hA hB hy hz hc hd hl;go_enter Tryz.func216,Tryz.ntmps216;go_upto_region 23 with fail
 go_region_held (fun W=>W.cell? ⟨w.heap.size,4,none⟩=some (.slice (some ⟨b,off,none⟩) args.length cp)/\W.cell? ⟨b,off,none⟩=some (.int .i64 y.op)/\W.cell? ⟨b,off+1,none⟩=some (.int .i64 y.n)/\W.cell? ⟨b,off+2,none⟩=some (.int .i64 y.m)/\W.cell? ⟨b,off+3,none⟩=some (.int .i64 y.at_)/\W.cell? ⟨b,off+4,none⟩=some (.slice a1 y.args.length k1)/\W.cell? ⟨b,off+5,none⟩=some (.int .i64 z.op)/\W.cell? ⟨b,off+5+1,none⟩=some (.int .i64 z.n)/\W.cell? ⟨b,off+5+2,none⟩=some (.int .i64 z.m)/\W.cell? ⟨b,off+5+3,none⟩=some (.int .i64 z.at_)/\W.cell? ⟨b,off+5+4,none⟩=some (.slice a2 z.args.length k2)) (first | with_reducible exact HS.out _ _ HW.out | with_reducible exact HS.out _ _ HD.out | with_reducible exact HS.out _ _ H1.out)
  (first
    | (go_at_call 272;refine HC.out.mono ?_;rintro e w1 ⟨rfl,h1⟩;have H1:=hid h1;clear h1))
 all_goals
  go_wp2_with fail;go_end0;exact ⟨rfl,H1.out.tail⟩
theorem z96 {w0 w:World} {R k:Nat} {K:List (Nat × Obj)} {s:Wrt} {A:Nat->Prop} {op n m at_:Int} {args:List Nd} {aa:OA} {cp:Nat} (hN:∀ y ∈ args,NdC w0 R k y) (hD:DAt w0 A aa args.length (zd5 args)) (h:Wri w0 w R K s) (h1:op≠1) (h2:op≠2) (h3:op≠16) (h4:op≠3) (h5:op≠4) (h6:op≠5) (h7:op≠6) (h8:op≠7) (h9:op≠8) (hr:(zb1 10 op 0 (zh2 (ndW k) args s)).code.length<=1000000) :
 Calls Tryz.prog 216 #[.pointer (some ⟨R,0,none⟩),.agg #[.int .i64 op,.int .i64 n,.int .i64 m,.int .i64 at_,.slice aa args.length cp]] w fun e w'=>e = .returned (.tuple #[])/\Wri w0 w' R K (zb1 10 op 0 (zh2 (ndW k) args s)):=by
 have HW:Hid (Wri w0 (w.alloc (nC op n m at_ aa args cp)) R ((w.heap.size,(nC op n m at_ aa args cp)) :: K) s):=h.box (nC op n m at_ aa args cp)
 have hr0:(zh2 (ndW k) args s).code.length<=1000000:=by simp only [zah] at hr;omega
 have HC:=hid (zpo (cap:=cp) hN hD HW.out hr0);clear h hN hD;go_enter Tryz.func216,Tryz.ntmps216;go_wp2_with fail;refine (HC.out).mono ?_;rintro e wa ⟨rfl,ha⟩;have Ha:=hid ha;clear ha;obtain ⟨q0,q1,q2,q3,q4, -⟩:=zad Ha.out.head;go_wp2_with fail;refine (zcd 10 op 0 Ha.out hr0).mono ?_;rintro e wb ⟨rfl,hb⟩;have Hb:=hid hb;clear hb;go_wp2_with fail;go_end0;exact ⟨rfl,Hb.out.tail⟩
def ndStep (f:Nd->Wrt->Wrt) (op n m at_:Int) (args:List Nd) (s:Wrt):Wrt:=
 if op=1 then zb1 1 n 0 s
 else if op=2 then zb1 18 0 0 s
 else if op=16 then zb1 2 at_ 0 s
 else if op=3 then zvf 3 m ⟨4,at_,0⟩ s
 else if op=4 then zb1 7 0 0 (zn7 (f (argN args 0)) n m at_ s)
 else if op=5 then zh3 (zh2 f args) m at_ s
 else if op=6 then zb1 9 0 0 (f (argN args 0) s)
 else if op=7 then z15 (f (argN args 0)) (f (argN args 1)) s
 else if op=8 then orW (f (argN args 0)) (f (argN args 1)) s
 else zb1 10 op 0 (zh2 f args s)
theorem ndW_succ (k:Nat) (op n m at_:Int) (args:List Nd) (s:Wrt):ndW (k+1) ⟨op,n,m,at_,args⟩ s=ndStep (ndW k) op n m at_ args s:=rfl
theorem zzz {c:Ck} {n m at_:Int} {args:List Nd} (h:za5 c ⟨4,n,m,at_,args⟩=true):args.length=1:=by
 simp [za5,Nd.op,Nd.args] at h;exact of_decide_eq_true h.1
theorem zt7 {c:Ck} {op n m at_:Int} {args:List Nd} (h:za5 c ⟨op,n,m,at_,args⟩=true) (h1:op≠1) (h3:op≠16) (h4:op≠3) (h5:op≠4) (h6:op≠5):(args.length:Int)=argsOf op:=by
 simp [za5,Nd.op,Nd.args,h1,h3,h4,h5,h6] at h;exact of_decide_eq_true h.1
theorem zv1 {w0:World} {R k:Nat} {c:Ck} {x:Nd} (hx:za5 c x=true) (hN:∀ y ∈ x.args,NdC w0 R k y):NdC w0 R (k+1) x:=by
 obtain ⟨op,n,m,at_,args⟩:=x;intro A aa cp K s w hD h hr;rw [ndW_succ] at hr ⊢;unfold ndStep at hr ⊢;simp only [Nd.op,Nd.n,Nd.m,Nd.at_,Nd.args] at hD hN ⊢
 by_cases e1:op=1
 . rw [if_pos e1] at hr ⊢;exact z9y hN hD h e1 hr
 rw [if_neg e1] at hr ⊢
 by_cases e2:op=2
 . rw [if_pos e2] at hr ⊢;exact z9z hN hD h e2 hr
 rw [if_neg e2] at hr ⊢
 by_cases e3:op=16
 . rw [if_pos e3] at hr ⊢;exact z8d hN hD h e3 hr
 rw [if_neg e3] at hr ⊢
 by_cases e4:op=3
 . rw [if_pos e4] at hr ⊢;exact z90 hN hD h e4 hr
 rw [if_neg e4] at hr ⊢
 by_cases e5:op=4
 . rw [if_pos e5] at hr ⊢
   subst e5;exact z91 hN hD h rfl (zzz hx) hr
 rw [if_neg e5] at hr ⊢
 by_cases e6:op=5
 . rw [if_pos e6] at hr ⊢;exact z92 hN hD h e6 hr
 rw [if_neg e6] at hr ⊢;have hl:=zt7 hx e1 e3 e4 e5 e6;unfold argsOf at hl;rw [if_neg e2] at hl
 by_cases e7:op=6
 . rw [if_pos e7] at hr ⊢
   rw [if_pos e7] at hl;exact z93 hN hD h e7 (by omega) hr
 rw [if_neg e7] at hr hl ⊢
 by_cases e8:op=7
 . rw [if_pos e8] at hr ⊢
   rw [if_pos (by omega)] at hl;exact z94 hN hD h e8 (by omega) hr
 rw [if_neg e8] at hr ⊢
 by_cases e9:op=8
 . rw [if_pos e9] at hr ⊢
   rw [if_pos (by omega)] at hl;exact z95 hN hD h e9 (by omega) hr
 rw [if_neg e9] at hr ⊢;exact z96 hN hD h e1 e2 e3 e4 e5 e6 e7 e8 e9 hr
theorem zsc {w0:World} {R:Nat} {c:Ck}:∀ (k:Nat) (x:Nd),za5 c x=true->zhd c k x.args=true->NdC w0 R (k+1) x
 | 0,x,h1,h2=>zv1 h1 (fun y hy=>by
  simp only [zhd,decide_eq_true_eq] at h2;rw [vao h2] at hy
  simp at hy)
 | k + 1,x,h1,h2=>zv1 h1 (fun y hy=>by
     simp only [zhd,vax,vad] at h2
     exact zsc k y (h2 y hy).1 (h2 y hy).2)
abbrev aC (a b c e:Int) (f:OA) (g:List Nd) (h:Nat) (i:OA) (j:List Ac) (k:Nat) (l:OA) (m:List Ac) (n:Nat):Obj:=.cells #[.int .i64 a,.int .i64 b,.int .i64 c,.int .i64 e,.slice f g.length h,.slice i j.length k,.slice l m.length n] 109
def AcC (w0:World) (R k:Nat) (y:Ac):Prop:=∀ (A:Nat->Prop) (a1:OA) (k1:Nat) (a2:OA) (k2:Nat) (a3:OA) (k3:Nat) (K:List (Nat × Obj)) (s:Wrt) (w:World),DAt w0 A a1 y.args.length (zd5 y.args)->DAt w0 A a2 y.body.length (zew y.body)->DAt w0 A a3 y.other.length (zew y.other)->Wri w0 w R K s->(acW k y s).code.length<=1000000->
 Calls Tryz.prog 172 #[.pointer (some ⟨R,0,none⟩),.agg #[.int .i64 y.op,.int .i64 y.n,.int .i64 y.m,.int .i64 y.at_,.slice a1 y.args.length k1,.slice a2 y.body.length k2,.slice a3 y.other.length k3]] w fun e w'=>e = .returned (.tuple #[])/\Wri w0 w' R K (acW k y s)
theorem zf6 {w0 w:World} {R k:Nat} {K:List (Nat × Obj)} {s:Wrt} {A:Nat->Prop} {l:List Ac} {a:OA} {cap:Nat} (hN:∀ y ∈ l,AcC w0 R k y) (hD:DAt w0 A a l.length (zew l)) (h:Wri w0 w R K s) (hr:(zd8 (acW k) l s).code.length<=1000000) :
 Calls Tryz.prog 130 #[.pointer (some ⟨R,0,none⟩),.slice a l.length cap] w fun e w'=>e = .returned (.tuple #[])/\Wri w0 w' R K (zd8 (acW k) l s):=by
 have hbd:=hD.bound;have HD:=hid hD;have HW:=hid h;have HN:=hid hN;have HR:=hid (fun j=>vai (z7n (acW k) (zgs k) l s j) hr);clear hD h hN hr;go_enter Tryz.func130,Tryz.ntmps130;go_wp2_with fail
 go_loopw [8] (fun i wr=>∃ j:Nat,j<=l.length/\i = .int .i64 j/\Wri w0 wr R K (zd8 (acW k) (l.take j) s)) (fun i _=>l.length - (intOf i).toNat)
 case atStart=>exact ⟨0,vae _,rfl,HW.out⟩
 case round=>
  obtain ⟨j,hj,rfl,hw⟩:=hrel;have H1:=hid hw;clear hw
  by_cases hlt:j<l.length
  . obtain ⟨b,off,a1,k1,a2,k2,a3,k3,rfl,hx⟩:=HD.out.ac j hlt
    have hbl:b<wr.heap.size:=vah hx.lt H1.out.below.size;have x0:=(H1.out.below.cell (p:=⟨b,off+j*7,none⟩) hx.lt).trans hx.c0;have x1:=(H1.out.below.cell (p:=⟨b,off+j*7+1,none⟩) hx.lt).trans hx.c1;have x2:=(H1.out.below.cell (p:=⟨b,off+j*7+2,none⟩) hx.lt).trans hx.c2;have x3:=(H1.out.below.cell (p:=⟨b,off+j*7+3,none⟩) hx.lt).trans hx.c3;have x4:=(H1.out.below.cell (p:=⟨b,off+j*7+4,none⟩) hx.lt).trans hx.c4;have x5:=(H1.out.below.cell (p:=⟨b,off+j*7+5,none⟩) hx.lt).trans hx.c5;have x6:=(H1.out.below.cell (p:=⟨b,off+j*7+6,none⟩) hx.lt).trans hx.c6;have HA:=hid (⟨hx.args',hx.body',hx.other'⟩:_/\_/\_);have HY:=hid (HN.out l[j] (vap hlt));have HT:=hid (fun h=>z19 (acW k) l s j hlt h);have HS:=hid (fun h=>z2a (acW k) l s j h);have HR':=hid (HR.out (j+1))
    clear hx;generalize l[j]=x at *;have HB:=hid (H1.out.box (.cells #[.int .i64 x.op,.int .i64 x.n,.int .i64 x.m,.int .i64 x.at_,.slice a1 x.args.length k1,.slice a2 x.body.length k2,.slice a3 x.other.length k3] 109));go_wp2_with fail;refine (zpm HB.out).mono ?_
    cases hf:ziq (zd8 (acW k) (l.take j) s) with
    | true=>
      rintro e w3 ⟨rfl,rfl⟩;have HS':=hid (HS.out hf);clear hf;go_wp2_with fail
      go_returns
      exact ⟨rfl,by rw [HS'.out];exact HB.out.tail⟩
    | false=>
      rintro e w3 ⟨rfl,rfl⟩;have HT':=hid (HT.out hf);rw [HT'.out] at HR';clear hf;go_wp2_with fail;refine (HY.out A a1 k1 a2 k2 a3 k3 K _ _ HA.out.1 HA.out.2.1 HA.out.2.2 HB.out.tail HR'.out).mono ?_;rintro e w4 ⟨rfl,h4⟩;have H4:=hid h4;clear h4;go_wp2_with fail;go_roundw
      case rel=>exact ⟨j+1,by omega,by go_num,by rw [HT'.out];exact H4.out⟩
      case measure=>simp [intOf];omega
  . obtain rfl:j=l.length:=by omega
    rw [vaz] at H1;go_wp2_with fail;go_end0;exact ⟨rfl,H1.out⟩
theorem z97 {w0 w:World} {R k:Nat} {K:List (Nat × Obj)} {s:Wrt} {A:Nat->Prop} {op n m at_:Int} {args:List Nd} {body other:List Ac} {a1:OA} {k1:Nat} {a2:OA} {k2:Nat} {a3:OA} {k3:Nat} (hN:∀ y ∈ args,NdC w0 R 6 y) (hD:DAt w0 A a1 args.length (zd5 args)) (h:Wri w0 w R K s) (hl:args.length=1) (hm:m = -1) (hr:(zb1 3 at_ 0 (ndW 6 (argN args 0) s)).code.length<=1000000) :
 Calls Tryz.prog 214 #[.pointer (some ⟨R,0,none⟩),.agg #[.int .i64 op,.int .i64 n,.int .i64 m,.int .i64 at_,.slice a1 args.length k1,.slice a2 body.length k2,.slice a3 other.length k3]] w fun e w'=>e = .returned (.tuple #[])/\Wri w0 w' R K (zb1 3 at_ 0 (ndW 6 (argN args 0) s)):=by
 subst hm;have HW:Hid (Wri w0 (w.alloc (.cells #[.int .i64 op,.int .i64 n,.int .i64 (-1),.int .i64 at_,.slice a1 args.length k1,.slice a2 body.length k2,.slice a3 other.length k3] 109)) R ((w.heap.size,(.cells #[.int .i64 op,.int .i64 n,.int .i64 (-1),.int .i64 at_,.slice a1 args.length k1,.slice a2 body.length k2,.slice a3 other.length k3] 109)) :: K) s):=h.box (.cells #[.int .i64 op,.int .i64 n,.int .i64 (-1),.int .i64 at_,.slice a1 args.length k1,.slice a2 body.length k2,.slice a3 other.length k3] 109)
 have hr0:(ndW 6 (argN args 0) s).code.length<=1000000:=by simp only [zah,za9] at hr;omega
 obtain ⟨b,off,aa,ca,rfl,hA,hc⟩:=zfi hD 0 (by omega);simp only [vbo,vbw] at hc;have hy:=zc9 hN 0 (by omega);generalize argN args 0=y at *;obtain ⟨z0,z1,z2,z3,z4⟩:=hc _ h.below
 have hb:b<w.heap.size:=by
  rcases vbj b w.heap.size with h' | h'
  . exact h'
  . simp [World.cell?,vbf h'] at z0
 have hl0:0<args.length:=by omega
 have HC:=hid (hy A aa ca _ _ _ hA HW.out hr0);clear h hN hD hA hy hc hl;go_enter Tryz.func214,Tryz.ntmps214;go_wp2_with fail;refine (HC.out).mono ?_;rintro e w1 ⟨rfl,h1⟩;have H1:=hid h1;clear h1;obtain ⟨q0,q1,q2,q3,q4,q5,q6, -⟩:=zaj H1.out.head;clear z0 z1 z2 z3 z4;go_wp2_with fail;refine (zcd 3 at_ 0 H1.out hr0).mono ?_;rintro e w2 ⟨rfl,h2⟩;have H2:=hid h2;clear h2;go_wp2_with fail
 go_returns
 exact ⟨rfl,H2.out.tail⟩
theorem z98 {w0 w:World} {R k:Nat} {K:List (Nat × Obj)} {s:Wrt} {A:Nat->Prop} {op n m at_:Int} {args:List Nd} {body other:List Ac} {a1:OA} {k1:Nat} {a2:OA} {k2:Nat} {a3:OA} {k3:Nat} (hN:∀ y ∈ args,NdC w0 R 6 y) (hD:DAt w0 A a1 args.length (zd5 args)) (h:Wri w0 w R K s) (hl:args.length=1) (hm:m≠-1) (hr:(zvf 3 m ⟨5,at_,0⟩ (ndW 6 (argN args 0) s)).code.length<=1000000) :
 Calls Tryz.prog 214 #[.pointer (some ⟨R,0,none⟩),.agg #[.int .i64 op,.int .i64 n,.int .i64 m,.int .i64 at_,.slice a1 args.length k1,.slice a2 body.length k2,.slice a3 other.length k3]] w fun e w'=>e = .returned (.tuple #[])/\Wri w0 w' R K (zvf 3 m ⟨5,at_,0⟩ (ndW 6 (argN args 0) s)):=by
 have HW:Hid (Wri w0 (w.alloc (aC op n m at_ a1 args k1 a2 body k2 a3 other k3)) R ((w.heap.size,(aC op n m at_ a1 args k1 a2 body k2 a3 other k3)) :: K) s):=h.box (aC op n m at_ a1 args k1 a2 body k2 a3 other k3)
 have hr0:(ndW 6 (argN args 0) s).code.length<=1000000:=by simp only [zah,za9] at hr;omega
 obtain ⟨b,off,aa,ca,rfl,hA,hc⟩:=zfi hD 0 (by omega);simp only [vbo,vbw] at hc;have hy:=zc9 hN 0 (by omega);generalize argN args 0=y at *;obtain ⟨z0,z1,z2,z3,z4⟩:=hc _ h.below
 have hb:b<w.heap.size:=by
  rcases vbj b w.heap.size with h' | h'
  . exact h'
  . simp [World.cell?,vbf h'] at z0
 have hl0:0<args.length:=by omega
 have HC:=hid (hy A aa ca _ _ _ hA HW.out hr0);clear h hN hD hA hy hc hl;go_enter Tryz.func214,Tryz.ntmps214;go_wp2_with fail;refine (HC.out).mono ?_;rintro e w1 ⟨rfl,h1⟩;have H1:=hid h1;clear h1;obtain ⟨q0,q1,q2,q3,q4,q5,q6, -⟩:=zaj H1.out.head;clear z0 z1 z2 z3 z4;go_wp2_with fail;refine (zeu 3 m 5 at_ 0 H1.out hr0).mono ?_;rintro e w2 ⟨rfl,h2⟩;have H2:=hid h2;clear h2;go_wp2_with fail;go_end0;exact ⟨rfl,H2.out.tail⟩
theorem ya1 {w0 w:World} {R k:Nat} {K:List (Nat × Obj)} {s:Wrt} {A:Nat->Prop} {op n m at_:Int} {args:List Nd} {body other:List Ac} {a1:OA} {k1:Nat} {a2:OA} {k2:Nat} {a3:OA} {k3:Nat} (hN:∀ y ∈ args,NdC w0 R 6 y) (hD:DAt w0 A a1 args.length (zd5 args)) (h:Wri w0 w R K s) (hl:args.length=1) (hB:∀ y ∈ body,AcC w0 R k y) (dB:DAt w0 A a2 body.length (zew body)) (hr:(zcv (ndW 6 (argN args 0) s).code.length (zd8 (acW k) body (zdg 12 0 (ndW 6 (argN args 0) s)))).code.length<=1000000) :
 Calls Tryz.prog 218 #[.pointer (some ⟨R,0,none⟩),.agg #[.int .i64 op,.int .i64 n,.int .i64 m,.int .i64 at_,.slice a1 args.length k1,.slice a2 body.length k2,.slice a3 0 k3]] w fun e w'=>e = .returned (.tuple #[])/\Wri w0 w' R K (zcv (ndW 6 (argN args 0) s).code.length (zd8 (acW k) body (zdg 12 0 (ndW 6 (argN args 0) s)))):=by
 have HW:Hid (Wri w0 (w.alloc (.cells #[.int .i64 op,.int .i64 n,.int .i64 m,.int .i64 at_,.slice a1 args.length k1,.slice a2 body.length k2,.slice a3 0 k3] 109)) R ((w.heap.size,(.cells #[.int .i64 op,.int .i64 n,.int .i64 m,.int .i64 at_,.slice a1 args.length k1,.slice a2 body.length k2,.slice a3 0 k3] 109)) :: K) s):=h.box (.cells #[.int .i64 op,.int .i64 n,.int .i64 m,.int .i64 at_,.slice a1 args.length k1,.slice a2 body.length k2,.slice a3 0 k3] 109);have m1:=zcz (zgs k) body (zdg 12 0 (ndW 6 (argN args 0) s));rw [zas] at m1
 have r1:(zd8 (acW k) body (zdg 12 0 (ndW 6 (argN args 0) s))).code.length<=1000000:=by simp only [zam] at hr;omega
 obtain ⟨b,off,aa,ca,rfl,hA,hc⟩:=zfi hD 0 (by omega);simp only [vbo,vbw] at hc;have hy:=zc9 hN 0 (by omega);generalize argN args 0=y at *;obtain ⟨z0,z1,z2,z3,z4⟩:=hc _ h.below
 have hb:b<w.heap.size:=by
  rcases vbj b w.heap.size with h' | h'
  . exact h'
  . simp [World.cell?,vbf h'] at z0
 have hl0:0<args.length:=by omega
 have HC:=hid (hy A aa ca _ _ _ hA HW.out (by omega));have HB:=hid (fun (K:List (Nat × Obj)) (s:Wrt) (w:World)=>zf6 (w:=w) (K:=K) (s:=s) (cap:=k2) hB dB);clear h hN hD hA hy hc hl hB dB;go_enter Tryz.func218,Tryz.ntmps218;go_wp2_with fail;refine (HC.out).mono ?_;rintro e w1 ⟨rfl,h1⟩;have H1:=hid h1;clear h1;clear z0 z1 z2 z3 z4;go_wp2_with fail;refine (zfv 12 H1.out (by omega)).mono ?_;rintro e w2 ⟨rfl,h2⟩;have H2:=hid h2;clear h2;obtain ⟨q0,q1,q2,q3,q4,q5,q6, -⟩:=zaj (H2.out.has (vaf _ (vaf _ (vam ..))));go_wp2_with fail;refine (HB.out _ _ _ H2.out r1).mono ?_;rintro e w3 ⟨rfl,h3⟩;have H3:=hid h3;clear h3;clear q0 q1 q2 q3 q4 q5 q6;obtain ⟨q0,q1,q2,q3,q4,q5,q6, -⟩:=zaj (H3.out.has (vaf _ (vaf _ (vam ..))))
 go_wp2_with (go_at_call 291;refine (zfw (b:=w1.heap.size) (k:=(ndW 6 y s).code.length) H3.out (by simp) (by simp) (by omega) r1).mono ?_;rintro e w4 ⟨rfl,h4⟩;have H4:=hid h4;clear h4)
 go_returns
 exact ⟨rfl,H4.out.tail.tail.tail⟩
theorem ya2 {w0 w:World} {R k:Nat} {K:List (Nat × Obj)} {s:Wrt} {A:Nat->Prop} {op n m at_:Int} {args:List Nd} {body other:List Ac} {a1:OA} {k1:Nat} {a2:OA} {k2:Nat} {a3:OA} {k3:Nat} (hN:∀ y ∈ args,NdC w0 R 6 y) (hD:DAt w0 A a1 args.length (zd5 args)) (h:Wri w0 w R K s) (hl:args.length=1) (hB:∀ y ∈ body,AcC w0 R k y) (dB:DAt w0 A a2 body.length (zew body)) (hO:∀ y ∈ other,AcC w0 R k y) (dO:DAt w0 A a3 other.length (zew other)) (hne:other.length≠0) (hr:(zcv (zd8 (acW k) body (zdg 12 0 (ndW 6 (argN args 0) s))).code.length (zd8 (acW k) other (zcv (ndW 6 (argN args 0) s).code.length (zdg 11 0 (zd8 (acW k) body (zdg 12 0 (ndW 6 (argN args 0) s))))))).code.length<=1000000) :
 Calls Tryz.prog 218 #[.pointer (some ⟨R,0,none⟩),.agg #[.int .i64 op,.int .i64 n,.int .i64 m,.int .i64 at_,.slice a1 args.length k1,.slice a2 body.length k2,.slice a3 other.length k3]] w fun e w'=>e = .returned (.tuple #[])/\Wri w0 w' R K (zcv (zd8 (acW k) body (zdg 12 0 (ndW 6 (argN args 0) s))).code.length (zd8 (acW k) other (zcv (ndW 6 (argN args 0) s).code.length (zdg 11 0 (zd8 (acW k) body (zdg 12 0 (ndW 6 (argN args 0) s))))))):=by
 have HW:Hid (Wri w0 (w.alloc (aC op n m at_ a1 args k1 a2 body k2 a3 other k3)) R ((w.heap.size,(aC op n m at_ a1 args k1 a2 body k2 a3 other k3)) :: K) s):=h.box (aC op n m at_ a1 args k1 a2 body k2 a3 other k3);have m1:=zcz (zgs k) body (zdg 12 0 (ndW 6 (argN args 0) s));have m2:=zcz (zgs k) other (zcv (ndW 6 (argN args 0) s).code.length (zdg 11 0 (zd8 (acW k) body (zdg 12 0 (ndW 6 (argN args 0) s)))));rw [zas] at m1;rw [zam,zas] at m2
 have r2:(zd8 (acW k) other (zcv (ndW 6 (argN args 0) s).code.length (zdg 11 0 (zd8 (acW k) body (zdg 12 0 (ndW 6 (argN args 0) s)))))).code.length<=1000000:=by simp only [zam] at hr;omega
 have r1:(zd8 (acW k) body (zdg 12 0 (ndW 6 (argN args 0) s))).code.length+1<=1000000:=by omega
 obtain ⟨b,off,aa,ca,rfl,hA,hc⟩:=zfi hD 0 (by omega);simp only [vbo,vbw] at hc;have hy:=zc9 hN 0 (by omega);generalize argN args 0=y at *;obtain ⟨z0,z1,z2,z3,z4⟩:=hc _ h.below
 have hb:b<w.heap.size:=by
  rcases vbj b w.heap.size with h' | h'
  . exact h'
  . simp [World.cell?,vbf h'] at z0
 have hl0:0<args.length:=by omega
 have hbo:=dO.bound;have HC:=hid (hy A aa ca _ _ _ hA HW.out (by omega));have HB:=hid (fun (K:List (Nat × Obj)) (s:Wrt) (w:World)=>zf6 (w:=w) (K:=K) (s:=s) (cap:=k2) hB dB);have HO:=hid (fun (K:List (Nat × Obj)) (s:Wrt) (w:World)=>zf6 (w:=w) (K:=K) (s:=s) (cap:=k3) hO dO);clear h hN hD hA hy hc hl hB dB hO dO;go_enter Tryz.func218,Tryz.ntmps218;go_wp2_with fail;refine (HC.out).mono ?_;rintro e w1 ⟨rfl,h1⟩;have H1:=hid h1;clear h1;clear z0 z1 z2 z3 z4;go_wp2_with fail;refine (zfv 12 H1.out (by omega)).mono ?_;rintro e w2 ⟨rfl,h2⟩;have H2:=hid h2;clear h2;obtain ⟨q0,q1,q2,q3,q4,q5,q6, -⟩:=zaj (H2.out.has (vaf _ (vaf _ (vam ..))));go_wp2_with fail;refine (HB.out _ _ _ H2.out (by omega)).mono ?_;rintro e w3 ⟨rfl,h3⟩;have H3:=hid h3;clear h3;clear q0 q1 q2 q3 q4 q5 q6
 obtain ⟨q0,q1,q2,q3,q4,q5,q6, -⟩:=zaj (H3.out.has (vaf _ (vaf _ (vam ..))));go_wp2_with fail;refine (zfv 11 H3.out (by omega)).mono ?_;rintro e w4 ⟨rfl,h4⟩;have H4:=hid h4;clear h4;clear q0 q1 q2 q3 q4 q5 q6
 go_wp2_with (go_at_call 291;refine (zfw (b:=w1.heap.size) (k:=(ndW 6 y s).code.length) H4.out (by simp) (by simp) (by simp only [zam,zas,zah,za9];omega) (by simp only [zam,zas,zah,za9];omega)).mono ?_;rintro e w5 ⟨rfl,h5⟩;have H5:=hid h5;clear h5;obtain ⟨q0,q1,q2,q3,q4,q5,q6, -⟩:=zaj (H5.out.has (vaf _ (vaf _ (vaf _ (vaf _ (vam ..)))))))
 refine (HO.out _ _ _ H5.out r2).mono ?_;rintro e w6 ⟨rfl,h6⟩;have H6:=hid h6;clear h6;clear q0 q1 q2 q3 q4 q5 q6
 go_wp2_with (go_at_call 291;refine (zfw (b:=w3.heap.size) (k:=(zd8 (acW k) body (zdg 12 0 (ndW 6 y s))).code.length) H6.out (by simp) (by simp) (by omega) r2).mono ?_;rintro e w7 ⟨rfl,h7⟩;have H7:=hid h7;clear h7)
 go_end0;exact ⟨rfl,H7.out.tail.tail.tail.tail.tail⟩
theorem wwh {w0 w:World} {R k:Nat} {K:List (Nat × Obj)} {s:Wrt} {A:Nat->Prop} {op n m at_:Int} {args:List Nd} {body other:List Ac} {a1:OA} {k1:Nat} {a2:OA} {k2:Nat} {a3:OA} {k3:Nat} (hN:∀ y ∈ args,NdC w0 R 6 y) (hD:DAt w0 A a1 args.length (zd5 args)) (h:Wri w0 w R K s) (hl:args.length=1) (hB:∀ y ∈ body,AcC w0 R k y) (dB:DAt w0 A a2 body.length (zew body)) (hr:(zcv (ndW 6 (argN args 0) s).code.length (zdg 11 s.code.length (zd8 (acW k) body (zb1 16 0 0 (zdg 12 0 (ndW 6 (argN args 0) s)))))).code.length<=1000000) :
 Calls Tryz.prog 219 #[.pointer (some ⟨R,0,none⟩),.agg #[.int .i64 op,.int .i64 n,.int .i64 m,.int .i64 at_,.slice a1 args.length k1,.slice a2 body.length k2,.slice a3 other.length k3]] w fun e w'=>e = .returned (.tuple #[])/\Wri w0 w' R K (zcv (ndW 6 (argN args 0) s).code.length (zdg 11 s.code.length (zd8 (acW k) body (zb1 16 0 0 (zdg 12 0 (ndW 6 (argN args 0) s)))))):=by
 have HW:Hid (Wri w0 (w.alloc (aC op n m at_ a1 args k1 a2 body k2 a3 other k3)) R ((w.heap.size,(aC op n m at_ a1 args k1 a2 body k2 a3 other k3)) :: K) s):=h.box (aC op n m at_ a1 args k1 a2 body k2 a3 other k3);have m0:=zdz 6 (argN args 0) s;have m1:=zcz (zgs k) body (zb1 16 0 0 (zdg 12 0 (ndW 6 (argN args 0) s)));rw [zah,zas] at m1
 have r1:(zd8 (acW k) body (zb1 16 0 0 (zdg 12 0 (ndW 6 (argN args 0) s)))).code.length+1<=1000000:=by simp only [zam,zas] at hr;omega
 obtain ⟨b,off,aa,ca,rfl,hA,hc⟩:=zfi hD 0 (by omega);simp only [vbo,vbw] at hc;have hy:=zc9 hN 0 (by omega);generalize argN args 0=y at *;obtain ⟨z0,z1,z2,z3,z4⟩:=hc _ h.below
 have hb:b<w.heap.size:=by
  rcases vbj b w.heap.size with h' | h'
  . exact h'
  . simp [World.cell?,vbf h'] at z0
 have hl0:0<args.length:=by omega
 have HE:=hid (zhv HW.out);have HC:=hid (hy A aa ca _ _ _ hA HW.out (by omega));have HB:=hid (fun (K:List (Nat × Obj)) (s:Wrt) (w:World)=>zf6 (w:=w) (K:=K) (s:=s) (cap:=k2) hB dB);clear h hN hD hA hy hc hl hB dB;go_enter Tryz.func219,Tryz.ntmps219;go_wp2_with fail;refine HE.out.mono ?_;rintro e w9 ⟨rfl,rfl⟩;go_wp2_with fail;refine (HC.out).mono ?_;rintro e w1 ⟨rfl,h1⟩;have H1:=hid h1;clear h1;clear z0 z1 z2 z3 z4;go_wp2_with fail;refine (zfv 12 H1.out (by omega)).mono ?_;rintro e w2 ⟨rfl,h2⟩;have H2:=hid h2;clear h2;go_wp2_with fail;refine (zcd 16 0 0 H2.out (by simp only [zam,zas,zah,za9];omega)).mono ?_;rintro e w3 ⟨rfl,h3⟩;have H3:=hid h3;clear h3;obtain ⟨q0,q1,q2,q3,q4,q5,q6, -⟩:=zaj (H3.out.has (vaf _ (vaf _ (vam ..))));go_wp2_with fail
 refine (HB.out _ _ _ H3.out (by omega)).mono ?_;rintro e w4 ⟨rfl,h4⟩;have H4:=hid h4;clear h4;clear q0 q1 q2 q3 q4 q5 q6;go_wp2_with fail;refine (zpn 11 s.code.length H4.out (by omega)).mono ?_;rintro e w5 ⟨rfl,h5⟩;have H5:=hid h5;clear h5
 go_wp2_with (go_at_call 291;refine (zfw (b:=w1.heap.size) (k:=(ndW 6 y s).code.length) H5.out (by simp) (by simp) (by simp only [zam,zas,zah,za9];omega) (by simp only [zam,zas,zah,za9];omega)).mono ?_;rintro e w6 ⟨rfl,h6⟩;have H6:=hid h6;clear h6)
 go_end0;exact ⟨rfl,H6.out.tail.tail.tail⟩
theorem z99 {w0 w:World} {R:Nat} {K:List (Nat × Obj)} {n m at_:Int} {args:List Nd} {body other:List Ac} {a1:OA} {k1:Nat} {a2:OA} {k2:Nat} {a3:OA} {k3:Nat} {s':Wrt} (HC:Hid (Calls Tryz.prog 214 #[.pointer (some ⟨R,0,none⟩),.agg #[.int .i64 1,.int .i64 n,.int .i64 m,.int .i64 at_,.slice a1 args.length k1,.slice a2 body.length k2,.slice a3 other.length k3]] (w.alloc (.cells #[.int .i64 1,.int .i64 n,.int .i64 m,.int .i64 at_,.slice a1 args.length k1,.slice a2 body.length k2,.slice a3 other.length k3] 109)) fun e w'=>e = .returned (.tuple #[])/\Wri w0 w' R ((w.heap.size,(.cells #[.int .i64 1,.int .i64 n,.int .i64 m,.int .i64 at_,.slice a1 args.length k1,.slice a2 body.length k2,.slice a3 other.length k3] 109)) :: K) s')) :
 Calls Tryz.prog 172 #[.pointer (some ⟨R,0,none⟩),.agg #[.int .i64 1,.int .i64 n,.int .i64 m,.int .i64 at_,.slice a1 args.length k1,.slice a2 body.length k2,.slice a3 other.length k3]] w fun e w'=>e = .returned (.tuple #[])/\Wri w0 w' R K s':=by
 go_enter Tryz.func172,Tryz.ntmps172;go_wp2_with fail;refine (HC.out).mono ?_;rintro e w1 ⟨rfl,h1⟩;have H1:=hid h1;clear h1;go_wp2_with fail;go_end0;exact ⟨rfl,H1.out.tail⟩
theorem yaa {w0 w:World} {R:Nat} {K:List (Nat × Obj)} {n m at_:Int} {args:List Nd} {body other:List Ac} {a1:OA} {k1:Nat} {a2:OA} {k2:Nat} {a3:OA} {k3:Nat} {s':Wrt} (HC:Hid (Calls Tryz.prog 218 #[.pointer (some ⟨R,0,none⟩),.agg #[.int .i64 4,.int .i64 n,.int .i64 m,.int .i64 at_,.slice a1 args.length k1,.slice a2 body.length k2,.slice a3 other.length k3]] (w.alloc (.cells #[.int .i64 4,.int .i64 n,.int .i64 m,.int .i64 at_,.slice a1 args.length k1,.slice a2 body.length k2,.slice a3 other.length k3] 109)) fun e w'=>e = .returned (.tuple #[])/\Wri w0 w' R ((w.heap.size,(.cells #[.int .i64 4,.int .i64 n,.int .i64 m,.int .i64 at_,.slice a1 args.length k1,.slice a2 body.length k2,.slice a3 other.length k3] 109)) :: K) s')) :
 Calls Tryz.prog 172 #[.pointer (some ⟨R,0,none⟩),.agg #[.int .i64 4,.int .i64 n,.int .i64 m,.int .i64 at_,.slice a1 args.length k1,.slice a2 body.length k2,.slice a3 other.length k3]] w fun e w'=>e = .returned (.tuple #[])/\Wri w0 w' R K s':=by
 go_enter Tryz.func172,Tryz.ntmps172;go_wp2_with fail;refine (HC.out).mono ?_;rintro e w1 ⟨rfl,h1⟩;have H1:=hid h1;clear h1;go_wp2_with fail;go_end0;exact ⟨rfl,H1.out.tail⟩
theorem yab {w0 w:World} {R:Nat} {K:List (Nat × Obj)} {n m at_:Int} {args:List Nd} {body other:List Ac} {a1:OA} {k1:Nat} {a2:OA} {k2:Nat} {a3:OA} {k3:Nat} {s':Wrt} (HC:Hid (Calls Tryz.prog 219 #[.pointer (some ⟨R,0,none⟩),.agg #[.int .i64 5,.int .i64 n,.int .i64 m,.int .i64 at_,.slice a1 args.length k1,.slice a2 body.length k2,.slice a3 other.length k3]] (w.alloc (.cells #[.int .i64 5,.int .i64 n,.int .i64 m,.int .i64 at_,.slice a1 args.length k1,.slice a2 body.length k2,.slice a3 other.length k3] 109)) fun e w'=>e = .returned (.tuple #[])/\Wri w0 w' R ((w.heap.size,(.cells #[.int .i64 5,.int .i64 n,.int .i64 m,.int .i64 at_,.slice a1 args.length k1,.slice a2 body.length k2,.slice a3 other.length k3] 109)) :: K) s')) :
 Calls Tryz.prog 172 #[.pointer (some ⟨R,0,none⟩),.agg #[.int .i64 5,.int .i64 n,.int .i64 m,.int .i64 at_,.slice a1 args.length k1,.slice a2 body.length k2,.slice a3 other.length k3]] w fun e w'=>e = .returned (.tuple #[])/\Wri w0 w' R K s':=by
 go_enter Tryz.func172,Tryz.ntmps172;go_wp2_with fail;refine (HC.out).mono ?_;rintro e w1 ⟨rfl,h1⟩;have H1:=hid h1;clear h1;go_wp2_with fail;go_end0;exact ⟨rfl,H1.out.tail⟩
theorem yac {w0 w:World} {R k:Nat} {K:List (Nat × Obj)} {s:Wrt} {A:Nat->Prop} {n m at_:Int} {args:List Nd} {body other:List Ac} {a1:OA} {k1:Nat} {a2:OA} {k2:Nat} {a3:OA} {k3:Nat} (hN:∀ y ∈ args,NdC w0 R 6 y) (hD:DAt w0 A a1 args.length (zd5 args)) (h:Wri w0 w R K s) (hl:args.length=1) (hr:(zb1 15 0 0 (ndW 6 (argN args 0) s)).code.length<=1000000) :
 Calls Tryz.prog 172 #[.pointer (some ⟨R,0,none⟩),.agg #[.int .i64 6,.int .i64 n,.int .i64 m,.int .i64 at_,.slice a1 args.length k1,.slice a2 body.length k2,.slice a3 other.length k3]] w fun e w'=>e = .returned (.tuple #[])/\Wri w0 w' R K (zb1 15 0 0 (ndW 6 (argN args 0) s)):=by
 have HW:Hid (Wri w0 (w.alloc (.cells #[.int .i64 6,.int .i64 n,.int .i64 m,.int .i64 at_,.slice a1 args.length k1,.slice a2 body.length k2,.slice a3 other.length k3] 109)) R ((w.heap.size,(.cells #[.int .i64 6,.int .i64 n,.int .i64 m,.int .i64 at_,.slice a1 args.length k1,.slice a2 body.length k2,.slice a3 other.length k3] 109)) :: K) s):=h.box (.cells #[.int .i64 6,.int .i64 n,.int .i64 m,.int .i64 at_,.slice a1 args.length k1,.slice a2 body.length k2,.slice a3 other.length k3] 109)
 have hr0:(ndW 6 (argN args 0) s).code.length<=1000000:=by simp only [zah] at hr;omega
 obtain ⟨b,off,aa,ca,rfl,hA,hc⟩:=zfi hD 0 (by omega);simp only [vbo,vbw] at hc;have hy:=zc9 hN 0 (by omega);generalize argN args 0=y at *;obtain ⟨z0,z1,z2,z3,z4⟩:=hc _ h.below
 have hb:b<w.heap.size:=by
  rcases vbj b w.heap.size with h' | h'
  . exact h'
  . simp [World.cell?,vbf h'] at z0
 have hl0:0<args.length:=by omega
 have HC:=hid (hy A aa ca _ _ _ hA HW.out hr0);clear h hN hD hA hy hc hl;go_enter Tryz.func172,Tryz.ntmps172;go_wp2_with fail;refine (HC.out).mono ?_;rintro e w1 ⟨rfl,h1⟩;have H1:=hid h1;clear h1;clear z0 z1 z2 z3 z4;go_wp2_with fail;refine (zcd 15 0 0 H1.out hr0).mono ?_;rintro e w2 ⟨rfl,h2⟩;have H2:=hid h2;clear h2;go_wp2_with fail;go_end0;exact ⟨rfl,H2.out.tail⟩
theorem yad {w0 w:World} {R k:Nat} {K:List (Nat × Obj)} {s:Wrt} {A:Nat->Prop} {n m at_:Int} {args:List Nd} {body other:List Ac} {a1:OA} {k1:Nat} {a2:OA} {k2:Nat} {a3:OA} {k3:Nat} (hN:∀ y ∈ args,NdC w0 R 6 y) (hD:DAt w0 A a1 args.length (zd5 args)) (h:Wri w0 w R K s) (hl:args.length=1) (hr:(zb1 19 0 0 (ndW 6 (argN args 0) s)).code.length<=1000000) :
 Calls Tryz.prog 172 #[.pointer (some ⟨R,0,none⟩),.agg #[.int .i64 7,.int .i64 n,.int .i64 m,.int .i64 at_,.slice a1 args.length k1,.slice a2 body.length k2,.slice a3 other.length k3]] w fun e w'=>e = .returned (.tuple #[])/\Wri w0 w' R K (zb1 19 0 0 (ndW 6 (argN args 0) s)):=by
 have HW:Hid (Wri w0 (w.alloc (.cells #[.int .i64 7,.int .i64 n,.int .i64 m,.int .i64 at_,.slice a1 args.length k1,.slice a2 body.length k2,.slice a3 other.length k3] 109)) R ((w.heap.size,(.cells #[.int .i64 7,.int .i64 n,.int .i64 m,.int .i64 at_,.slice a1 args.length k1,.slice a2 body.length k2,.slice a3 other.length k3] 109)) :: K) s):=h.box (.cells #[.int .i64 7,.int .i64 n,.int .i64 m,.int .i64 at_,.slice a1 args.length k1,.slice a2 body.length k2,.slice a3 other.length k3] 109)
 have hr0:(ndW 6 (argN args 0) s).code.length<=1000000:=by simp only [zah] at hr;omega
 obtain ⟨b,off,aa,ca,rfl,hA,hc⟩:=zfi hD 0 (by omega);simp only [vbo,vbw] at hc;have hy:=zc9 hN 0 (by omega);generalize argN args 0=y at *;obtain ⟨z0,z1,z2,z3,z4⟩:=hc _ h.below
 have hb:b<w.heap.size:=by
  rcases vbj b w.heap.size with h' | h'
  . exact h'
  . simp [World.cell?,vbf h'] at z0
 have hl0:0<args.length:=by omega
 have HC:=hid (hy A aa ca _ _ _ hA HW.out hr0);clear h hN hD hA hy hc hl;go_enter Tryz.func172,Tryz.ntmps172;go_wp2_with fail;refine (HC.out).mono ?_;rintro e w1 ⟨rfl,h1⟩;have H1:=hid h1;clear h1;clear z0 z1 z2 z3 z4;go_wp2_with fail;refine (zcd 19 0 0 H1.out hr0).mono ?_;rintro e w2 ⟨rfl,h2⟩;have H2:=hid h2;clear h2;go_wp2_with fail;go_end0;exact ⟨rfl,H2.out.tail⟩
theorem yae {w0 w:World} {R k:Nat} {K:List (Nat × Obj)} {s:Wrt} {A:Nat->Prop} {n m at_:Int} {args:List Nd} {body other:List Ac} {a1:OA} {k1:Nat} {a2:OA} {k2:Nat} {a3:OA} {k3:Nat} (hN:∀ y ∈ args,NdC w0 R 6 y) (hD:DAt w0 A a1 args.length (zd5 args)) (h:Wri w0 w R K s) (hr:(zb1 17 0 0 (zh3 (zh2 (ndW 6) args) m at_ s)).code.length<=1000000) :
 Calls Tryz.prog 172 #[.pointer (some ⟨R,0,none⟩),.agg #[.int .i64 3,.int .i64 n,.int .i64 m,.int .i64 at_,.slice a1 args.length k1,.slice a2 body.length k2,.slice a3 other.length k3]] w fun e w'=>e = .returned (.tuple #[])/\Wri w0 w' R K (zb1 17 0 0 (zh3 (zh2 (ndW 6) args) m at_ s)):=by
 have HW:Hid (Wri w0 (w.alloc (.cells #[.int .i64 3,.int .i64 n,.int .i64 m,.int .i64 at_,.slice a1 args.length k1,.slice a2 body.length k2,.slice a3 other.length k3] 109)) R ((w.heap.size,(.cells #[.int .i64 3,.int .i64 n,.int .i64 m,.int .i64 at_,.slice a1 args.length k1,.slice a2 body.length k2,.slice a3 other.length k3] 109)) :: K) s):=h.box (.cells #[.int .i64 3,.int .i64 n,.int .i64 m,.int .i64 at_,.slice a1 args.length k1,.slice a2 body.length k2,.slice a3 other.length k3] 109)
 have hr0:(zh2 (ndW 6) args s).code.length+1<=1000000:=by simp only [zah,zh3,za9] at hr;omega
 have HC:=hid (ztd (cap:=k1) m at_ hN hD HW.out (by omega));clear h hN hD;go_enter Tryz.func172,Tryz.ntmps172;go_wp2_with fail;refine (HC.out).mono ?_;rintro e w1 ⟨rfl,h1⟩;have H1:=hid h1;clear h1;go_wp2_with fail;refine (zcd 17 0 0 H1.out (by simp only [zh3,za9];omega)).mono ?_;rintro e w2 ⟨rfl,h2⟩;have H2:=hid h2;clear h2;go_wp2_with fail;go_end0;exact ⟨rfl,H2.out.tail⟩
theorem yaf {w0 w:World} {R k:Nat} {K:List (Nat × Obj)} {s:Wrt} {A:Nat->Prop} {n m at_:Int} {args:List Nd} {body other:List Ac} {a1:OA} {k1:Nat} {a2:OA} {k2:Nat} {a3:OA} {k3:Nat} (hN:∀ y ∈ args,NdC w0 R 6 y) (hD:DAt w0 A a1 args.length (zd5 args)) (h:Wri w0 w R K s) (hl:args.length=2) (hr:(zb1 8 0 0 (ndW 6 (argN args 1) (zn7 (ndW 6 (argN args 0)) n m at_ s))).code.length<=1000000) :
 Calls Tryz.prog 172 #[.pointer (some ⟨R,0,none⟩),.agg #[.int .i64 2,.int .i64 n,.int .i64 m,.int .i64 at_,.slice a1 args.length k1,.slice a2 body.length k2,.slice a3 other.length k3]] w fun e w'=>e = .returned (.tuple #[])/\Wri w0 w' R K (zb1 8 0 0 (ndW 6 (argN args 1) (zn7 (ndW 6 (argN args 0)) n m at_ s))):=by
 have HW:Hid (Wri w0 (w.alloc (.cells #[.int .i64 2,.int .i64 n,.int .i64 m,.int .i64 at_,.slice a1 args.length k1,.slice a2 body.length k2,.slice a3 other.length k3] 109)) R ((w.heap.size,(.cells #[.int .i64 2,.int .i64 n,.int .i64 m,.int .i64 at_,.slice a1 args.length k1,.slice a2 body.length k2,.slice a3 other.length k3] 109)) :: K) s):=h.box (.cells #[.int .i64 2,.int .i64 n,.int .i64 m,.int .i64 at_,.slice a1 args.length k1,.slice a2 body.length k2,.slice a3 other.length k3] 109);have m1:=zdz 6 (argN args 1) (zn7 (ndW 6 (argN args 0)) n m at_ s)
 have r1:(ndW 6 (argN args 1) (zn7 (ndW 6 (argN args 0)) n m at_ s)).code.length<=1000000:=by simp only [zah] at hr;omega
 have r0:(ndW 6 (argN args 0) s).code.length<=1000000:=by simp only [zn7,za9] at m1 r1;omega
 obtain ⟨b,off,aa,ca,rfl,hA,hc⟩:=zfi hD 0 (by omega);obtain ⟨b',off',ab,cb,hbb,hB,hd⟩:=zfi hD 1 (by omega);cases hbb;simp only [vbo,vbw] at hc;simp only [vdn] at hd;have hy:=zc9 hN 0 (by omega);have hz:=zc9 hN 1 (by omega);generalize argN args 0=y at *;generalize argN args 1=z at *;have HC:=hid (zpp (cp:=ca) n m at_ hy hA HW.out.drew r0);have HZ:=hid (fun (W:World) (h:Wri w0 W R ((w.heap.size,(.cells #[.int .i64 2,.int .i64 n,.int .i64 m,.int .i64 at_,.slice (some ⟨b,off,none⟩) args.length k1,.slice a2 body.length k2,.slice a3 other.length k3] 109)) :: K) (zn7 (ndW 6 y) n m at_ s))=>hz A ab cb _ _ W hB h r1)
 have HS:Hid (∀ W s',Wri w0 W R ((w.heap.size,(.cells #[.int .i64 2,.int .i64 n,.int .i64 m,.int .i64 at_,.slice (some ⟨b,off,none⟩) args.length k1,.slice a2 body.length k2,.slice a3 other.length k3] 109)) :: K) s'->W.cell? ⟨w.heap.size,1,none⟩=some (.int .i64 n)/\W.cell? ⟨w.heap.size,2,none⟩=some (.int .i64 m)/\W.cell? ⟨w.heap.size,3,none⟩=some (.int .i64 at_)/\W.cell? ⟨w.heap.size,4,none⟩=some (.slice (some ⟨b,off,none⟩) args.length k1)/\W.cell? ⟨b,off,none⟩=some (.int .i64 y.op)/\W.cell? ⟨b,off+1,none⟩=some (.int .i64 y.n)/\W.cell? ⟨b,off+2,none⟩=some (.int .i64 y.m)/\W.cell? ⟨b,off+3,none⟩=some (.int .i64 y.at_)/\W.cell? ⟨b,off+4,none⟩=some (.slice aa y.args.length ca)):=fun W s' hW=>by
  obtain ⟨q0,q1,q2,q3,q4,q5,q6, -⟩:=zaj hW.head;obtain ⟨z0,z1,z2,z3,z4⟩:=hc W hW.below;exact ⟨q1,q2,q3,q4,z0,z1,z2,z3,z4⟩
 have HS2:Hid (∀ W s',Wri w0 W R ((w.heap.size,(.cells #[.int .i64 2,.int .i64 n,.int .i64 m,.int .i64 at_,.slice (some ⟨b,off,none⟩) args.length k1,.slice a2 body.length k2,.slice a3 other.length k3] 109)) :: K) s'->W.cell? ⟨w.heap.size,4,none⟩=some (.slice (some ⟨b,off,none⟩) args.length k1)/\W.cell? ⟨b,off+5,none⟩=some (.int .i64 z.op)/\W.cell? ⟨b,off+5+1,none⟩=some (.int .i64 z.n)/\W.cell? ⟨b,off+5+2,none⟩=some (.int .i64 z.m)/\W.cell? ⟨b,off+5+3,none⟩=some (.int .i64 z.at_)/\W.cell? ⟨b,off+5+4,none⟩=some (.slice ab z.args.length cb)):=fun W s' hW=>by
  obtain ⟨q0,q1,q2,q3,q4,q5,q6, -⟩:=zaj hW.head;obtain ⟨z0,z1,z2,z3,z4⟩:=hd W hW.below;exact ⟨q4,z0,z1,z2,z3,z4⟩
 have HD:=hid HW.out.drew
 have hl0:1<args.length:=by omega
 clear h hN hD hA hB hy hz hc hd hl;go_enter Tryz.func172,Tryz.ntmps172;go_upto_region 5 with fail
 go_region_held (fun W=>W.cell? ⟨w.heap.size,1,none⟩=some (.int .i64 n)/\W.cell? ⟨w.heap.size,2,none⟩=some (.int .i64 m)/\W.cell? ⟨w.heap.size,3,none⟩=some (.int .i64 at_)/\W.cell? ⟨w.heap.size,4,none⟩=some (.slice (some ⟨b,off,none⟩) args.length k1)/\W.cell? ⟨b,off,none⟩=some (.int .i64 y.op)/\W.cell? ⟨b,off+1,none⟩=some (.int .i64 y.n)/\W.cell? ⟨b,off+2,none⟩=some (.int .i64 y.m)/\W.cell? ⟨b,off+3,none⟩=some (.int .i64 y.at_)/\W.cell? ⟨b,off+4,none⟩=some (.slice aa y.args.length ca)) (first | with_reducible exact HS.out _ _ HW.out | with_reducible exact HS.out _ _ HD.out | with_reducible exact HS.out _ _ H1.out)
  (first
    | (go_at_call 215;refine HC.out.mono ?_;rintro e w1 ⟨rfl,h1⟩;have H1:=hid h1;clear h1))
 all_goals
  obtain ⟨q4,z0,z1,z2,z3,z4⟩:=HS2.out _ _ H1.out;go_wp2_with fail;refine (HZ.out _ H1.out).mono ?_;rintro e w2 ⟨rfl,h2⟩;have H2:=hid h2;clear h2 q4 z0 z1 z2 z3 z4;go_wp2_with fail;refine (zcd 8 0 0 H2.out r1).mono ?_;rintro e w3 ⟨rfl,h3⟩;have H3:=hid h3;clear h3;go_wp2_with fail;go_end0;exact ⟨rfl,H3.out.tail⟩
def zv2 (f:Ac->Wrt->Wrt) (op n m at_:Int) (args:List Nd) (body other:List Ac) (s:Wrt):Wrt:=
 if op=1 then z5t (ndW 6 (argN args 0)) m at_ s
 else if op=2 then zb1 8 0 0 (ndW 6 (argN args 1) (zn7 (ndW 6 (argN args 0)) n m at_ s))
 else if op=3 then zb1 17 0 0 (zh3 (zh2 (ndW 6) args) m at_ s)
 else if op=4 then brW (ndW 6 (argN args 0)) (zd8 f body) (zd8 f other) other.isEmpty s
 else if op=5 then whW (ndW 6 (argN args 0)) (zd8 f body) s
 else if op=6 then zb1 15 0 0 (ndW 6 (argN args 0) s)
 else if op=7 then zb1 19 0 0 (ndW 6 (argN args 0) s)
 else s
theorem zqe (k:Nat) (op n m at_:Int) (args:List Nd) (body other:List Ac) (s:Wrt):acW (k+1) ⟨op,n,m,at_,args,body,other⟩ s=zv2 (acW k) op n m at_ args body other s:=rfl
theorem zl9 {c:Ck} {op n m at_:Int} {args:List Nd} {body other:List Ac} (h:zcj c ⟨op,n,m,at_,args,body,other⟩=true):(1<=op/\op<=7)/\(op=2->args.length=2)/\(op≠2->op≠3->args.length=1):=by
 unfold zcj at h
 by_cases e1:op=1
 . subst e1
   simp [Ac.op,Ac.args] at h;exact ⟨by decide,fun h=>absurd h (by decide),fun _ _=>of_decide_eq_true h.1⟩
 by_cases e2:op=2
 . subst e2
   simp [Ac.op,Ac.args] at h;exact ⟨by decide,fun _=>of_decide_eq_true h.1,fun h=>absurd rfl h⟩
 by_cases e3:op=3
 . subst e3
   exact ⟨by decide,fun h=>absurd h (by decide),fun _ h=>absurd rfl h⟩
 by_cases e4:4<=op/\op<=7
 . simp [Ac.op,Ac.args,e1,e2,e3,e4] at h
   exact ⟨by omega,fun h=>absurd h e2,fun _ _=>of_decide_eq_true h.1⟩
 . simp [Ac.op,Ac.args,e1,e2,e3,e4] at h
theorem z6f {w0:World} {R k:Nat} {c:Ck} {x:Ac} (hx:zcj c x=true) (hN:∀ y ∈ x.args,NdC w0 R 6 y) (hB:∀ y ∈ x.body,AcC w0 R k y) (hO:∀ y ∈ x.other,AcC w0 R k y):AcC w0 R (k+1) x:=by
 obtain ⟨op,n,m,at_,args,body,other⟩:=x;intro A a1 k1 a2 k2 a3 k3 K s w hD dB dO h hr;obtain ⟨⟨o1,o7⟩,l2,l1⟩:=zl9 hx;rw [zqe] at hr ⊢;unfold zv2 at hr ⊢;simp only [Ac.op,Ac.n,Ac.m,Ac.at_,Ac.args,Ac.body,Ac.other] at hD dB dO hN hB hO ⊢
 by_cases e1:op=1
 . rw [if_pos e1] at hr ⊢
   subst e1;unfold z5t at hr ⊢;refine z99 ?_
   by_cases hm:m = -1
   . rw [if_pos hm] at hr ⊢;exact z97 (k:=0) hN hD (h.box _) (l1 (by decide) (by decide)) hm hr
   . rw [if_neg hm] at hr ⊢;exact z98 (k:=0) hN hD (h.box _) (l1 (by decide) (by decide)) hm hr
 rw [if_neg e1] at hr ⊢
 by_cases e2:op=2
 . rw [if_pos e2] at hr ⊢
   subst e2;exact yaf (k:=0) hN hD h (l2 rfl) hr
 rw [if_neg e2] at hr ⊢
 by_cases e3:op=3
 . rw [if_pos e3] at hr ⊢
   subst e3;exact yae (k:=0) hN hD h hr
 rw [if_neg e3] at hr ⊢;have hl:=l1 e2 e3
 by_cases e4:op=4
 . rw [if_pos e4] at hr ⊢
   subst e4;refine yaa ?_;unfold brW at hr ⊢
   cases other with
   | nil=>exact ya1 (other:=[]) hN hD (h.box _) hl hB dB hr
   | cons o r=>exact ya2 hN hD (h.box _) hl hB dB hO dO (by simp) hr
 rw [if_neg e4] at hr ⊢
 by_cases e5:op=5
 . rw [if_pos e5] at hr ⊢
   subst e5;exact yab (wwh hN hD (h.box _) hl hB dB hr)
 rw [if_neg e5] at hr ⊢
 by_cases e6:op=6
 . rw [if_pos e6] at hr ⊢
   subst e6;exact yac (k:=0) hN hD h hl hr
 rw [if_neg e6] at hr ⊢
 by_cases e7:op=7
 . rw [if_pos e7] at hr ⊢
   subst e7;exact yad (k:=0) hN hD h hl hr
 . omega
theorem zk9 {w0:World} {R:Nat} {c:Ck}:∀ (k:Nat) (l:List Ac),zfm c k l=true->∀ y ∈ l,AcC w0 R k y
 | 0,l,h=>by simp [zfm] at h
 | k + 1,l,h=>fun y hy=>by
   simp only [zfm,vad,vax] at h;obtain ⟨h1,h2,h3⟩:=h.2 y hy
   have hN:∀ z ∈ y.args,NdC w0 R 6 z:=fun z hz=>by
    rw [show zhd c 6 y.args=y.args.all (fun x=>za5 c x&&zhd c 5 x.args) from rfl,vax] at h2;have h4:=h2 z hz;rw [vad] at h4;exact zsc 5 z h4.1 h4.2
   have nil:∀ (q:List Ac),q.length=0->∀ z ∈ q,AcC w0 R k z:=fun q hq z hz=>by
    rw [vao hq] at hz;simp at hz
   refine z6f h1 hN ?_ ?_
   . split at h3
     . exact zk9 k _ (vad .. ▸ h3).1
     . split at h3
       . exact zk9 k _ (vad .. ▸ h3).1
       . simp only [vad,decide_eq_true_eq] at h3
         exact nil _ h3.1
   . split at h3
     . exact zk9 k _ (vad .. ▸ h3).2
     . split at h3
       . simp only [vad,decide_eq_true_eq] at h3
         exact nil _ h3.2
       . simp only [vad,decide_eq_true_eq] at h3
         exact nil _ h3.2
end Go.Proofs.YtndkhgakfodldaaGreatDoor
