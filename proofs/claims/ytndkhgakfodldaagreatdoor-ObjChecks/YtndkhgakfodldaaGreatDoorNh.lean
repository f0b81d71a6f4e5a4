/-
  Package gen: an expression.
-/
import Derived.Test.YtndkhgakfodldaaGreatDoorYa
namespace Go.Proofs.YtndkhgakfodldaaGreatDoor
set_option maxRecDepth 100000
set_option maxHeartbeats 1600000
open Go.RowKit Go.Maps Go.WideMaps
set_option linter.unusedSimpArgs false
set_option linter.unusedVariables false
theorem arg_at {w0:World} {A:Nat->Prop} {aa:Option Addr} {l:List Nd} (hD:DAt w0 A aa l.length (ndsD l)) (i:Nat) (hi:i<l.length):∃ b off a1 k1,aa=some ⟨b,off,none⟩/\DAt w0 A a1 (argN l i).args.length (ndsD (argN l i).args)/\
 ∀ W,Below w0.heap.size w0 W->W.cell? ⟨b,off+i*5,none⟩=some (.int .i64 (argN l i).op)/\W.cell? ⟨b,off+i*5+1,none⟩=some (.int .i64 (argN l i).n)/\W.cell? ⟨b,off+i*5+2,none⟩=some (.int .i64 (argN l i).m)/\W.cell? ⟨b,off+i*5+3,none⟩=some (.int .i64 (argN l i).at_)/\W.cell? ⟨b,off+i*5+4,none⟩=some (.slice a1 (argN l i).args.length k1):=by
 rw [argN_get l i hi];obtain ⟨b,off,a1,k1,ha,hx⟩:=hD.nd i hi;refine ⟨b,off,a1,k1,ha,hx.args',fun W hW=>⟨?_,?_,?_,?_,?_⟩⟩
 . exact (hW.cell (p:=⟨b,_,none⟩) hx.lt).trans hx.c0
 . exact (hW.cell (p:=⟨b,_,none⟩) hx.lt).trans hx.c1
 . exact (hW.cell (p:=⟨b,_,none⟩) hx.lt).trans hx.c2
 . exact (hW.cell (p:=⟨b,_,none⟩) hx.lt).trans hx.c3
 . exact (hW.cell (p:=⟨b,_,none⟩) hx.lt).trans hx.c4
theorem arg_mem {w0:World} {R k:Nat} {l:List Nd} (h:∀ y ∈ l,NdC w0 R k y) (i:Nat) (hi:i<l.length):NdC w0 R k (argN l i):=by
 rw [argN_get l i hi];exact h _ (List.getElem_mem hi)
theorem node1 {w0 w:World} {R k:Nat} {K:List (Nat × Obj)} {s:Wrt} {A:Nat->Prop} {op n m at_:Int} {args:List Nd} {aa:Option Addr} {cp:Nat} (hN:∀ y ∈ args,NdC w0 R k y) (hD:DAt w0 A aa args.length (ndsD args)) (h:Wri w0 w R K s) (ho:op=1) (hr:(putW 1 n 0 s).code.length<=1000000) :
 Calls Tryz.prog 216 #[.pointer (some ⟨R,0,none⟩),.agg #[.int .i64 op,.int .i64 n,.int .i64 m,.int .i64 at_,.slice aa args.length cp]] w fun e w'=>e = .returned (.tuple #[])/\Wri w0 w' R K (putW 1 n 0 s):=by
 have HW:Hid (Wri w0 (w.alloc (.cells #[.int .i64 op,.int .i64 n,.int .i64 m,.int .i64 at_,.slice aa args.length cp] 253)) R ((w.heap.size,(.cells #[.int .i64 op,.int .i64 n,.int .i64 m,.int .i64 at_,.slice aa args.length cp] 253)) :: K) s):=h.box (.cells #[.int .i64 op,.int .i64 n,.int .i64 m,.int .i64 at_,.slice aa args.length cp] 253);subst ho
 have hr0:s.code.length<=1000000:=by simp only [putW_len,fixW_len] at hr;omega
 clear h hN hD;go_enter Tryz.func216,Tryz.ntmps216;go_wp2_with fail;refine (put_any 1 n 0 HW.out hr0).mono ?_;rintro e w1 ⟨rfl,h1⟩;have H1:=hid h1;clear h1;go_wp2_with fail;go_end0;exact ⟨rfl,H1.out.tail⟩
theorem node2 {w0 w:World} {R k:Nat} {K:List (Nat × Obj)} {s:Wrt} {A:Nat->Prop} {op n m at_:Int} {args:List Nd} {aa:Option Addr} {cp:Nat} (hN:∀ y ∈ args,NdC w0 R k y) (hD:DAt w0 A aa args.length (ndsD args)) (h:Wri w0 w R K s) (ho:op=2) (hr:(putW 18 0 0 s).code.length<=1000000) :
 Calls Tryz.prog 216 #[.pointer (some ⟨R,0,none⟩),.agg #[.int .i64 op,.int .i64 n,.int .i64 m,.int .i64 at_,.slice aa args.length cp]] w fun e w'=>e = .returned (.tuple #[])/\Wri w0 w' R K (putW 18 0 0 s):=by
 have HW:Hid (Wri w0 (w.alloc (.cells #[.int .i64 op,.int .i64 n,.int .i64 m,.int .i64 at_,.slice aa args.length cp] 253)) R ((w.heap.size,(.cells #[.int .i64 op,.int .i64 n,.int .i64 m,.int .i64 at_,.slice aa args.length cp] 253)) :: K) s):=h.box (.cells #[.int .i64 op,.int .i64 n,.int .i64 m,.int .i64 at_,.slice aa args.length cp] 253);subst ho
 have hr0:s.code.length<=1000000:=by simp only [putW_len,fixW_len] at hr;omega
 clear h hN hD;go_enter Tryz.func216,Tryz.ntmps216;go_wp2_with fail;refine (put_any 18 0 0 HW.out hr0).mono ?_;rintro e w1 ⟨rfl,h1⟩;have H1:=hid h1;clear h1;go_wp2_with fail;go_end0;exact ⟨rfl,H1.out.tail⟩
theorem node16 {w0 w:World} {R k:Nat} {K:List (Nat × Obj)} {s:Wrt} {A:Nat->Prop} {op n m at_:Int} {args:List Nd} {aa:Option Addr} {cp:Nat} (hN:∀ y ∈ args,NdC w0 R k y) (hD:DAt w0 A aa args.length (ndsD args)) (h:Wri w0 w R K s) (ho:op=16) (hr:(putW 2 at_ 0 s).code.length<=1000000) :
 Calls Tryz.prog 216 #[.pointer (some ⟨R,0,none⟩),.agg #[.int .i64 op,.int .i64 n,.int .i64 m,.int .i64 at_,.slice aa args.length cp]] w fun e w'=>e = .returned (.tuple #[])/\Wri w0 w' R K (putW 2 at_ 0 s):=by
 have HW:Hid (Wri w0 (w.alloc (.cells #[.int .i64 op,.int .i64 n,.int .i64 m,.int .i64 at_,.slice aa args.length cp] 253)) R ((w.heap.size,(.cells #[.int .i64 op,.int .i64 n,.int .i64 m,.int .i64 at_,.slice aa args.length cp] 253)) :: K) s):=h.box (.cells #[.int .i64 op,.int .i64 n,.int .i64 m,.int .i64 at_,.slice aa args.length cp] 253);subst ho
 have hr0:s.code.length<=1000000:=by simp only [putW_len,fixW_len] at hr;omega
 clear h hN hD;go_enter Tryz.func216,Tryz.ntmps216;go_wp2_with fail;refine (put_any 2 at_ 0 HW.out hr0).mono ?_;rintro e w1 ⟨rfl,h1⟩;have H1:=hid h1;clear h1;go_wp2_with fail;go_end0;exact ⟨rfl,H1.out.tail⟩
theorem node3 {w0 w:World} {R k:Nat} {K:List (Nat × Obj)} {s:Wrt} {A:Nat->Prop} {op n m at_:Int} {args:List Nd} {aa:Option Addr} {cp:Nat} (hN:∀ y ∈ args,NdC w0 R k y) (hD:DAt w0 A aa args.length (ndsD args)) (h:Wri w0 w R K s) (ho:op=3) (hr:(fixW 3 m ⟨4,at_,0⟩ s).code.length<=1000000) :
 Calls Tryz.prog 216 #[.pointer (some ⟨R,0,none⟩),.agg #[.int .i64 op,.int .i64 n,.int .i64 m,.int .i64 at_,.slice aa args.length cp]] w fun e w'=>e = .returned (.tuple #[])/\Wri w0 w' R K (fixW 3 m ⟨4,at_,0⟩ s):=by
 have HW:Hid (Wri w0 (w.alloc (.cells #[.int .i64 op,.int .i64 n,.int .i64 m,.int .i64 at_,.slice aa args.length cp] 253)) R ((w.heap.size,(.cells #[.int .i64 op,.int .i64 n,.int .i64 m,.int .i64 at_,.slice aa args.length cp] 253)) :: K) s):=h.box (.cells #[.int .i64 op,.int .i64 n,.int .i64 m,.int .i64 at_,.slice aa args.length cp] 253);subst ho
 have hr0:s.code.length<=1000000:=by simp only [putW_len,fixW_len] at hr;omega
 clear h hN hD;go_enter Tryz.func216,Tryz.ntmps216;go_wp2_with fail;refine (putFixed_any 3 m 4 at_ 0 HW.out hr0).mono ?_;rintro e w1 ⟨rfl,h1⟩;have H1:=hid h1;clear h1;go_wp2_with fail;go_end0;exact ⟨rfl,H1.out.tail⟩
theorem node4 {w0 w:World} {R k:Nat} {K:List (Nat × Obj)} {s:Wrt} {A:Nat->Prop} {op n m at_:Int} {args:List Nd} {aa:Option Addr} {cp:Nat} (hN:∀ y ∈ args,NdC w0 R k y) (hD:DAt w0 A aa args.length (ndsD args)) (h:Wri w0 w R K s) (ho:op=4) (hl:args.length=1) (hr:(putW 7 0 0 (idxW (ndW k (argN args 0)) n m at_ s)).code.length<=1000000) :
 Calls Tryz.prog 216 #[.pointer (some ⟨R,0,none⟩),.agg #[.int .i64 op,.int .i64 n,.int .i64 m,.int .i64 at_,.slice aa args.length cp]] w fun e w'=>e = .returned (.tuple #[])/\Wri w0 w' R K (putW 7 0 0 (idxW (ndW k (argN args 0)) n m at_ s)):=by
 have HW:Hid (Wri w0 (w.alloc (.cells #[.int .i64 op,.int .i64 n,.int .i64 m,.int .i64 at_,.slice aa args.length cp] 253)) R ((w.heap.size,(.cells #[.int .i64 op,.int .i64 n,.int .i64 m,.int .i64 at_,.slice aa args.length cp] 253)) :: K) s):=h.box (.cells #[.int .i64 op,.int .i64 n,.int .i64 m,.int .i64 at_,.slice aa args.length cp] 253);subst ho
 have hr0:(ndW k (argN args 0) s).code.length+1<=1000000:=by simp only [putW_len,idxW,fixW_len] at hr;omega
 obtain ⟨b,off,a1,k1,rfl,hA,hc⟩:=arg_at hD 0 (by omega);simp only [Nat.zero_mul,Nat.add_zero] at hc;have hy:=arg_mem hN 0 (by omega);generalize argN args 0=y at *;have HA:=hid hA;have HY:=hid hy
 have HS:Hid (∀ W s',Wri w0 W R ((w.heap.size,(.cells #[.int .i64 4,.int .i64 n,.int .i64 m,.int .i64 at_,.slice (some ⟨b,off,none⟩) args.length cp] 253)) :: K) s'->W.cell? ⟨w.heap.size,1,none⟩=some (.int .i64 n)/\W.cell? ⟨w.heap.size,2,none⟩=some (.int .i64 m)/\W.cell? ⟨w.heap.size,3,none⟩=some (.int .i64 at_)/\W.cell? ⟨w.heap.size,4,none⟩=some (.slice (some ⟨b,off,none⟩) args.length cp)/\W.cell? ⟨b,off,none⟩=some (.int .i64 y.op)/\W.cell? ⟨b,off+1,none⟩=some (.int .i64 y.n)/\W.cell? ⟨b,off+2,none⟩=some (.int .i64 y.m)/\W.cell? ⟨b,off+3,none⟩=some (.int .i64 y.at_)/\W.cell? ⟨b,off+4,none⟩=some (.slice a1 y.args.length k1)):=fun W s' hW=>by
  obtain ⟨q0,q1,q2,q3,q4, -⟩:=cellsOf5 hW.head;obtain ⟨z0,z1,z2,z3,z4⟩:=hc W hW.below;exact ⟨q1,q2,q3,q4,z0,z1,z2,z3,z4⟩
 have HD:=hid HW.out.drew
 have hl0:0<args.length:=by omega
 clear h hN hD hA hy hc hl;go_enter Tryz.func216,Tryz.ntmps216;go_upto_region 13 with fail
 go_region_held (fun W=>W.cell? ⟨w.heap.size,1,none⟩=some (.int .i64 n)/\W.cell? ⟨w.heap.size,2,none⟩=some (.int .i64 m)/\W.cell? ⟨w.heap.size,3,none⟩=some (.int .i64 at_)/\W.cell? ⟨w.heap.size,4,none⟩=some (.slice (some ⟨b,off,none⟩) args.length cp)/\W.cell? ⟨b,off,none⟩=some (.int .i64 y.op)/\W.cell? ⟨b,off+1,none⟩=some (.int .i64 y.n)/\W.cell? ⟨b,off+2,none⟩=some (.int .i64 y.m)/\W.cell? ⟨b,off+3,none⟩=some (.int .i64 y.at_)/\W.cell? ⟨b,off+4,none⟩=some (.slice a1 y.args.length k1)) (first | with_reducible exact HS.out _ _ HW.out | with_reducible exact HS.out _ _ HD.out | with_reducible exact HS.out _ _ H1.out)
  (first
    | (go_at_call 215;refine (windex_any n m at_ HY.out HA.out HD.out (by omega)).mono ?_;rintro e w1 ⟨rfl,h1⟩;have H1:=hid h1;clear h1))
 all_goals
  go_wp2_with fail;refine (put_any 7 0 0 H1.out (by simp only [idxW,fixW_len];omega)).mono ?_;rintro e w2 ⟨rfl,h2⟩;have H2:=hid h2;clear h2;go_wp2_with fail;go_end0;exact ⟨rfl,H2.out.tail⟩
theorem node5 {w0 w:World} {R k:Nat} {K:List (Nat × Obj)} {s:Wrt} {A:Nat->Prop} {op n m at_:Int} {args:List Nd} {aa:Option Addr} {cp:Nat} (hN:∀ y ∈ args,NdC w0 R k y) (hD:DAt w0 A aa args.length (ndsD args)) (h:Wri w0 w R K s) (ho:op=5) (hr:(callW (ndsW (ndW k) args) m at_ s).code.length<=1000000) :
 Calls Tryz.prog 216 #[.pointer (some ⟨R,0,none⟩),.agg #[.int .i64 op,.int .i64 n,.int .i64 m,.int .i64 at_,.slice aa args.length cp]] w fun e w'=>e = .returned (.tuple #[])/\Wri w0 w' R K (callW (ndsW (ndW k) args) m at_ s):=by
 have HW:Hid (Wri w0 (w.alloc (.cells #[.int .i64 op,.int .i64 n,.int .i64 m,.int .i64 at_,.slice aa args.length cp] 253)) R ((w.heap.size,(.cells #[.int .i64 op,.int .i64 n,.int .i64 m,.int .i64 at_,.slice aa args.length cp] 253)) :: K) s):=h.box (.cells #[.int .i64 op,.int .i64 n,.int .i64 m,.int .i64 at_,.slice aa args.length cp] 253);subst ho
 have hr0:(ndsW (ndW k) args s).code.length<=1000000:=by simp only [callW,fixW_len] at hr;omega
 have HC:=hid (wcall_any (cap:=cp) m at_ hN hD HW.out hr0);clear h hN hD;go_enter Tryz.func216,Tryz.ntmps216;go_wp2_with fail;refine (HC.out).mono ?_;rintro e w1 ⟨rfl,h1⟩;have H1:=hid h1;clear h1;go_wp2_with fail;go_end0;exact ⟨rfl,H1.out.tail⟩
theorem node6 {w0 w:World} {R k:Nat} {K:List (Nat × Obj)} {s:Wrt} {A:Nat->Prop} {op n m at_:Int} {args:List Nd} {aa:Option Addr} {cp:Nat} (hN:∀ y ∈ args,NdC w0 R k y) (hD:DAt w0 A aa args.length (ndsD args)) (h:Wri w0 w R K s) (ho:op=6) (hl:args.length=1) (hr:(putW 9 0 0 (ndW k (argN args 0) s)).code.length<=1000000) :
 Calls Tryz.prog 216 #[.pointer (some ⟨R,0,none⟩),.agg #[.int .i64 op,.int .i64 n,.int .i64 m,.int .i64 at_,.slice aa args.length cp]] w fun e w'=>e = .returned (.tuple #[])/\Wri w0 w' R K (putW 9 0 0 (ndW k (argN args 0) s)):=by
 have HW:Hid (Wri w0 (w.alloc (.cells #[.int .i64 op,.int .i64 n,.int .i64 m,.int .i64 at_,.slice aa args.length cp] 253)) R ((w.heap.size,(.cells #[.int .i64 op,.int .i64 n,.int .i64 m,.int .i64 at_,.slice aa args.length cp] 253)) :: K) s):=h.box (.cells #[.int .i64 op,.int .i64 n,.int .i64 m,.int .i64 at_,.slice aa args.length cp] 253);subst ho
 have hr0:(ndW k (argN args 0) s).code.length<=1000000:=by simp only [putW_len] at hr;omega
 obtain ⟨b,off,a1,k1,rfl,hA,hc⟩:=arg_at hD 0 (by omega);simp only [Nat.zero_mul,Nat.add_zero] at hc;have hy:=arg_mem hN 0 (by omega);generalize argN args 0=y at *;have HC:=hid (hy A a1 k1 _ _ _ hA HW.out hr0);obtain ⟨z0,z1,z2,z3,z4⟩:=hc _ h.below
 have hb:b<w.heap.size:=by
  rcases Nat.lt_or_ge b w.heap.size with h' | h'
  . exact h'
  . simp [World.cell?,Array.getElem?_eq_none h'] at z0
 have hl0:0<args.length:=by omega
 clear h hN hD hA hy hc hl;go_enter Tryz.func216,Tryz.ntmps216;go_wp2_with fail;refine (HC.out).mono ?_;rintro e w1 ⟨rfl,h1⟩;have H1:=hid h1;clear h1;clear z0 z1 z2 z3 z4;go_wp2_with fail;refine (put_any 9 0 0 H1.out hr0).mono ?_;rintro e w2 ⟨rfl,h2⟩;have H2:=hid h2;clear h2;go_wp2_with fail;go_end0;exact ⟨rfl,H2.out.tail⟩
theorem node7 {w0 w:World} {R k:Nat} {K:List (Nat × Obj)} {s:Wrt} {A:Nat->Prop} {op n m at_:Int} {args:List Nd} {aa:Option Addr} {cp:Nat} (hN:∀ y ∈ args,NdC w0 R k y) (hD:DAt w0 A aa args.length (ndsD args)) (h:Wri w0 w R K s) (ho:op=7) (hl:args.length=2) (hr:(andW (ndW k (argN args 0)) (ndW k (argN args 1)) s).code.length<=1000000) :
 Calls Tryz.prog 216 #[.pointer (some ⟨R,0,none⟩),.agg #[.int .i64 op,.int .i64 n,.int .i64 m,.int .i64 at_,.slice aa args.length cp]] w fun e w'=>e = .returned (.tuple #[])/\Wri w0 w' R K (andW (ndW k (argN args 0)) (ndW k (argN args 1)) s):=by
 have HW:Hid (Wri w0 (w.alloc (.cells #[.int .i64 op,.int .i64 n,.int .i64 m,.int .i64 at_,.slice aa args.length cp] 253)) R ((w.heap.size,(.cells #[.int .i64 op,.int .i64 n,.int .i64 m,.int .i64 at_,.slice aa args.length cp] 253)) :: K) s):=h.box (.cells #[.int .i64 op,.int .i64 n,.int .i64 m,.int .i64 at_,.slice aa args.length cp] 253);subst ho;obtain ⟨b,off,a1,k1,rfl,hA,hc⟩:=arg_at hD 0 (by omega);obtain ⟨b',off',a2,k2,hbb,hB,hd⟩:=arg_at hD 1 (by omega);cases hbb;simp only [Nat.zero_mul,Nat.add_zero] at hc;simp only [Nat.one_mul] at hd;have hy:=arg_mem hN 0 (by omega);have hz:=arg_mem hN 1 (by omega);generalize argN args 0=y at *;generalize argN args 1=z at *;have HC:=hid (wand_any (cx:=k1) (cy:=k2) hy hz hA hB HW.out.drew hr)
 have HS:Hid (∀ W s',Wri w0 W R ((w.heap.size,(.cells #[.int .i64 7,.int .i64 n,.int .i64 m,.int .i64 at_,.slice (some ⟨b,off,none⟩) args.length cp] 253)) :: K) s'->W.cell? ⟨w.heap.size,4,none⟩=some (.slice (some ⟨b,off,none⟩) args.length cp)/\W.cell? ⟨b,off,none⟩=some (.int .i64 y.op)/\W.cell? ⟨b,off+1,none⟩=some (.int .i64 y.n)/\W.cell? ⟨b,off+2,none⟩=some (.int .i64 y.m)/\W.cell? ⟨b,off+3,none⟩=some (.int .i64 y.at_)/\W.cell? ⟨b,off+4,none⟩=some (.slice a1 y.args.length k1)/\W.cell? ⟨b,off+5,none⟩=some (.int .i64 z.op)/\W.cell? ⟨b,off+5+1,none⟩=some (.int .i64 z.n)/\W.cell? ⟨b,off+5+2,none⟩=some (.int .i64 z.m)/\W.cell? ⟨b,off+5+3,none⟩=some (.int .i64 z.at_)/\W.cell? ⟨b,off+5+4,none⟩=some (.slice a2 z.args.length k2)):=fun W s' hW=>by
  obtain ⟨q0,q1,q2,q3,q4, -⟩:=cellsOf5 hW.head;obtain ⟨z0,z1,z2,z3,z4⟩:=hc W hW.below;obtain ⟨y0,y1,y2,y3,y4⟩:=hd W hW.below;exact ⟨q4,z0,z1,z2,z3,z4,y0,y1,y2,y3,y4⟩
 have HD:=hid HW.out.drew
 have hl0:1<args.length:=by omega
 clear h hN hD hA hB hy hz hc hd hl;go_enter Tryz.func216,Tryz.ntmps216;go_upto_region 21 with fail
 go_region_held (fun W=>W.cell? ⟨w.heap.size,4,none⟩=some (.slice (some ⟨b,off,none⟩) args.length cp)/\W.cell? ⟨b,off,none⟩=some (.int .i64 y.op)/\W.cell? ⟨b,off+1,none⟩=some (.int .i64 y.n)/\W.cell? ⟨b,off+2,none⟩=some (.int .i64 y.m)/\W.cell? ⟨b,off+3,none⟩=some (.int .i64 y.at_)/\W.cell? ⟨b,off+4,none⟩=some (.slice a1 y.args.length k1)/\W.cell? ⟨b,off+5,none⟩=some (.int .i64 z.op)/\W.cell? ⟨b,off+5+1,none⟩=some (.int .i64 z.n)/\W.cell? ⟨b,off+5+2,none⟩=some (.int .i64 z.m)/\W.cell? ⟨b,off+5+3,none⟩=some (.int .i64 z.at_)/\W.cell? ⟨b,off+5+4,none⟩=some (.slice a2 z.args.length k2)) (first | with_reducible exact HS.out _ _ HW.out | with_reducible exact HS.out _ _ HD.out | with_reducible exact HS.out _ _ H1.out)
  (first
    | (go_at_call 271;refine HC.out.mono ?_;rintro e w1 ⟨rfl,h1⟩;have H1:=hid h1;clear h1))
 all_goals
  go_wp2_with fail;go_end0;exact ⟨rfl,H1.out.tail⟩
theorem node8 {w0 w:World} {R k:Nat} {K:List (Nat × Obj)} {s:Wrt} {A:Nat->Prop} {op n m at_:Int} {args:List Nd} {aa:Option Addr} {cp:Nat} (hN:∀ y ∈ args,NdC w0 R k y) (hD:DAt w0 A aa args.length (ndsD args)) (h:Wri w0 w R K s) (ho:op=8) (hl:args.length=2) (hr:(orW (ndW k (argN args 0)) (ndW k (argN args 1)) s).code.length<=1000000) :
 Calls Tryz.prog 216 #[.pointer (some ⟨R,0,none⟩),.agg #[.int .i64 op,.int .i64 n,.int .i64 m,.int .i64 at_,.slice aa args.length cp]] w fun e w'=>e = .returned (.tuple #[])/\Wri w0 w' R K (orW (ndW k (argN args 0)) (ndW k (argN args 1)) s):=by
 have HW:Hid (Wri w0 (w.alloc (.cells #[.int .i64 op,.int .i64 n,.int .i64 m,.int .i64 at_,.slice aa args.length cp] 253)) R ((w.heap.size,(.cells #[.int .i64 op,.int .i64 n,.int .i64 m,.int .i64 at_,.slice aa args.length cp] 253)) :: K) s):=h.box (.cells #[.int .i64 op,.int .i64 n,.int .i64 m,.int .i64 at_,.slice aa args.length cp] 253);subst ho;obtain ⟨b,off,a1,k1,rfl,hA,hc⟩:=arg_at hD 0 (by omega);obtain ⟨b',off',a2,k2,hbb,hB,hd⟩:=arg_at hD 1 (by omega);cases hbb;simp only [Nat.zero_mul,Nat.add_zero] at hc;simp only [Nat.one_mul] at hd;have hy:=arg_mem hN 0 (by omega);have hz:=arg_mem hN 1 (by omega);generalize argN args 0=y at *;generalize argN args 1=z at *;have HC:=hid (wor_any (cx:=k1) (cy:=k2) hy hz hA hB HW.out.drew hr)
 have HS:Hid (∀ W s',Wri w0 W R ((w.heap.size,(.cells #[.int .i64 8,.int .i64 n,.int .i64 m,.int .i64 at_,.slice (some ⟨b,off,none⟩) args.length cp] 253)) :: K) s'->W.cell? ⟨w.heap.size,4,none⟩=some (.slice (some ⟨b,off,none⟩) args.length cp)/\W.cell? ⟨b,off,none⟩=some (.int .i64 y.op)/\W.cell? ⟨b,off+1,none⟩=some (.int .i64 y.n)/\W.cell? ⟨b,off+2,none⟩=some (.int .i64 y.m)/\W.cell? ⟨b,off+3,none⟩=some (.int .i64 y.at_)/\W.cell? ⟨b,off+4,none⟩=some (.slice a1 y.args.length k1)/\W.cell? ⟨b,off+5,none⟩=some (.int .i64 z.op)/\W.cell? ⟨b,off+5+1,none⟩=some (.int .i64 z.n)/\W.cell? ⟨b,off+5+2,none⟩=some (.int .i64 z.m)/\W.cell? ⟨b,off+5+3,none⟩=some (.int .i64 z.at_)/\W.cell? ⟨b,off+5+4,none⟩=some (.slice a2 z.args.length k2)):=fun W s' hW=>by
  obtain ⟨q0,q1,q2,q3,q4, -⟩:=cellsOf5 hW.head;obtain ⟨z0,z1,z2,z3,z4⟩:=hc W hW.below;obtain ⟨y0,y1,y2,y3,y4⟩:=hd W hW.below;exact ⟨q4,z0,z1,z2,z3,z4,y0,y1,y2,y3,y4⟩
 have HD:=hid HW.out.drew
 have hl0:1<args.length:=by omega
 clear h hN hD hA hB hy hz hc hd hl;go_enter Tryz.func216,Tryz.ntmps216;go_upto_region 23 with fail
 go_region_held (fun W=>W.cell? ⟨w.heap.size,4,none⟩=some (.slice (some ⟨b,off,none⟩) args.length cp)/\W.cell? ⟨b,off,none⟩=some (.int .i64 y.op)/\W.cell? ⟨b,off+1,none⟩=some (.int .i64 y.n)/\W.cell? ⟨b,off+2,none⟩=some (.int .i64 y.m)/\W.cell? ⟨b,off+3,none⟩=some (.int .i64 y.at_)/\W.cell? ⟨b,off+4,none⟩=some (.slice a1 y.args.length k1)/\W.cell? ⟨b,off+5,none⟩=some (.int .i64 z.op)/\W.cell? ⟨b,off+5+1,none⟩=some (.int .i64 z.n)/\W.cell? ⟨b,off+5+2,none⟩=some (.int .i64 z.m)/\W.cell? ⟨b,off+5+3,none⟩=some (.int .i64 z.at_)/\W.cell? ⟨b,off+5+4,none⟩=some (.slice a2 z.args.length k2)) (first | with_reducible exact HS.out _ _ HW.out | with_reducible exact HS.out _ _ HD.out | with_reducible exact HS.out _ _ H1.out)
  (first
    | (go_at_call 272;refine HC.out.mono ?_;rintro e w1 ⟨rfl,h1⟩;have H1:=hid h1;clear h1))
 all_goals
  go_wp2_with fail;go_end0;exact ⟨rfl,H1.out.tail⟩
theorem node9 {w0 w:World} {R k:Nat} {K:List (Nat × Obj)} {s:Wrt} {A:Nat->Prop} {op n m at_:Int} {args:List Nd} {aa:Option Addr} {cp:Nat} (hN:∀ y ∈ args,NdC w0 R k y) (hD:DAt w0 A aa args.length (ndsD args)) (h:Wri w0 w R K s) (h1:op≠1) (h2:op≠2) (h3:op≠16) (h4:op≠3) (h5:op≠4) (h6:op≠5) (h7:op≠6) (h8:op≠7) (h9:op≠8) (hr:(putW 10 op 0 (ndsW (ndW k) args s)).code.length<=1000000) :
 Calls Tryz.prog 216 #[.pointer (some ⟨R,0,none⟩),.agg #[.int .i64 op,.int .i64 n,.int .i64 m,.int .i64 at_,.slice aa args.length cp]] w fun e w'=>e = .returned (.tuple #[])/\Wri w0 w' R K (putW 10 op 0 (ndsW (ndW k) args s)):=by
 have HW:Hid (Wri w0 (w.alloc (.cells #[.int .i64 op,.int .i64 n,.int .i64 m,.int .i64 at_,.slice aa args.length cp] 253)) R ((w.heap.size,(.cells #[.int .i64 op,.int .i64 n,.int .i64 m,.int .i64 at_,.slice aa args.length cp] 253)) :: K) s):=h.box (.cells #[.int .i64 op,.int .i64 n,.int .i64 m,.int .i64 at_,.slice aa args.length cp] 253)
 have hr0:(ndsW (ndW k) args s).code.length<=1000000:=by simp only [putW_len] at hr;omega
 have HC:=hid (wnodes_any (cap:=cp) hN hD HW.out hr0);clear h hN hD;go_enter Tryz.func216,Tryz.ntmps216;go_wp2_with fail;refine (HC.out).mono ?_;rintro e wa ⟨rfl,ha⟩;have Ha:=hid ha;clear ha;obtain ⟨q0,q1,q2,q3,q4, -⟩:=cellsOf5 Ha.out.head;go_wp2_with fail;refine (put_any 10 op 0 Ha.out hr0).mono ?_;rintro e wb ⟨rfl,hb⟩;have Hb:=hid hb;clear hb;go_wp2_with fail;go_end0;exact ⟨rfl,Hb.out.tail⟩
def ndStep (f:Nd->Wrt->Wrt) (op n m at_:Int) (args:List Nd) (s:Wrt):Wrt:=
 if op=1 then putW 1 n 0 s
 else if op=2 then putW 18 0 0 s
 else if op=16 then putW 2 at_ 0 s
 else if op=3 then fixW 3 m ⟨4,at_,0⟩ s
 else if op=4 then putW 7 0 0 (idxW (f (argN args 0)) n m at_ s)
 else if op=5 then callW (ndsW f args) m at_ s
 else if op=6 then putW 9 0 0 (f (argN args 0) s)
 else if op=7 then andW (f (argN args 0)) (f (argN args 1)) s
 else if op=8 then orW (f (argN args 0)) (f (argN args 1)) s
 else putW 10 op 0 (ndsW f args s)
theorem ndW_succ (k:Nat) (op n m at_:Int) (args:List Nd) (s:Wrt):ndW (k+1) ⟨op,n,m,at_,args⟩ s=ndStep (ndW k) op n m at_ args s:=rfl
theorem nodeA_4 {c:Ck} {n m at_:Int} {args:List Nd} (h:nodeA c ⟨4,n,m,at_,args⟩=true):args.length=1:=by
 simp [nodeA,Nd.op,Nd.args] at h;exact of_decide_eq_true h.1
theorem nodeA_9 {c:Ck} {op n m at_:Int} {args:List Nd} (h:nodeA c ⟨op,n,m,at_,args⟩=true) (h1:op≠1) (h3:op≠16) (h4:op≠3) (h5:op≠4) (h6:op≠5):(args.length:Int)=argsOf op:=by
 simp [nodeA,Nd.op,Nd.args,h1,h3,h4,h5,h6] at h;exact of_decide_eq_true h.1
theorem wnode_of {w0:World} {R k:Nat} {c:Ck} {x:Nd} (hx:nodeA c x=true) (hN:∀ y ∈ x.args,NdC w0 R k y):NdC w0 R (k+1) x:=by
 obtain ⟨op,n,m,at_,args⟩:=x;intro A aa cp K s w hD h hr;rw [ndW_succ] at hr ⊢;unfold ndStep at hr ⊢;simp only [Nd.op,Nd.n,Nd.m,Nd.at_,Nd.args] at hD hN ⊢
 by_cases e1:op=1
 . rw [if_pos e1] at hr ⊢;exact node1 hN hD h e1 hr
 rw [if_neg e1] at hr ⊢
 by_cases e2:op=2
 . rw [if_pos e2] at hr ⊢;exact node2 hN hD h e2 hr
 rw [if_neg e2] at hr ⊢
 by_cases e3:op=16
 . rw [if_pos e3] at hr ⊢;exact node16 hN hD h e3 hr
 rw [if_neg e3] at hr ⊢
 by_cases e4:op=3
 . rw [if_pos e4] at hr ⊢;exact node3 hN hD h e4 hr
 rw [if_neg e4] at hr ⊢
 by_cases e5:op=4
 . rw [if_pos e5] at hr ⊢
   subst e5;exact node4 hN hD h rfl (nodeA_4 hx) hr
 rw [if_neg e5] at hr ⊢
 by_cases e6:op=5
 . rw [if_pos e6] at hr ⊢;exact node5 hN hD h e6 hr
 rw [if_neg e6] at hr ⊢;have hl:=nodeA_9 hx e1 e3 e4 e5 e6;unfold argsOf at hl;rw [if_neg e2] at hl
 by_cases e7:op=6
 . rw [if_pos e7] at hr ⊢
   rw [if_pos e7] at hl;exact node6 hN hD h e7 (by omega) hr
 rw [if_neg e7] at hr hl ⊢
 by_cases e8:op=7
 . rw [if_pos e8] at hr ⊢
   rw [if_pos (by omega)] at hl;exact node7 hN hD h e8 (by omega) hr
 rw [if_neg e8] at hr ⊢
 by_cases e9:op=8
 . rw [if_pos e9] at hr ⊢
   rw [if_pos (by omega)] at hl;exact node8 hN hD h e9 (by omega) hr
 rw [if_neg e9] at hr ⊢;exact node9 hN hD h e1 e2 e3 e4 e5 e6 e7 e8 e9 hr
theorem wnode_any {w0:World} {R:Nat} {c:Ck}:∀ (k:Nat) (x:Nd),nodeA c x=true->ndsB c k x.args=true->NdC w0 R (k+1) x
 | 0,x,h1,h2=>wnode_of h1 (fun y hy=>by
  simp only [ndsB,decide_eq_true_eq] at h2;rw [List.eq_nil_of_length_eq_zero h2] at hy
  simp at hy)
 | k + 1,x,h1,h2=>wnode_of h1 (fun y hy=>by
     simp only [ndsB,List.all_eq_true,Bool.and_eq_true] at h2
     exact wnode_any k y (h2 y hy).1 (h2 y hy).2)
end Go.Proofs.YtndkhgakfodldaaGreatDoor

namespace Go.Proofs.YtndkhgakfodldaaGreatDoor
set_option maxRecDepth 100000
set_option maxHeartbeats 1600000
open Go.RowKit Go.Maps Go.WideMaps
set_option linter.unusedSimpArgs false
set_option linter.unusedVariables false
def AcC (w0:World) (R k:Nat) (y:Ac):Prop:=∀ (A:Nat->Prop) (a1:Option Addr) (k1:Nat) (a2:Option Addr) (k2:Nat) (a3:Option Addr) (k3:Nat) (K:List (Nat × Obj)) (s:Wrt) (w:World),DAt w0 A a1 y.args.length (ndsD y.args)->DAt w0 A a2 y.body.length (acsD y.body)->DAt w0 A a3 y.other.length (acsD y.other)->Wri w0 w R K s->(acW k y s).code.length<=1000000->
 Calls Tryz.prog 172 #[.pointer (some ⟨R,0,none⟩),.agg #[.int .i64 y.op,.int .i64 y.n,.int .i64 y.m,.int .i64 y.at_,.slice a1 y.args.length k1,.slice a2 y.body.length k2,.slice a3 y.other.length k3]] w fun e w'=>e = .returned (.tuple #[])/\Wri w0 w' R K (acW k y s)
theorem wblock_any {w0 w:World} {R k:Nat} {K:List (Nat × Obj)} {s:Wrt} {A:Nat->Prop} {l:List Ac} {a:Option Addr} {cap:Nat} (hN:∀ y ∈ l,AcC w0 R k y) (hD:DAt w0 A a l.length (acsD l)) (h:Wri w0 w R K s) (hr:(blkW (acW k) l s).code.length<=1000000) :
 Calls Tryz.prog 130 #[.pointer (some ⟨R,0,none⟩),.slice a l.length cap] w fun e w'=>e = .returned (.tuple #[])/\Wri w0 w' R K (blkW (acW k) l s):=by
 have hbd:=hD.bound;have HD:=hid hD;have HW:=hid h;have HN:=hid hN;have HR:=hid (fun j=>Nat.le_trans (blkW_le (acW k) (acW_mono k) l s j) hr);clear hD h hN hr;go_enter Tryz.func130,Tryz.ntmps130;go_wp2_with fail
 go_loopw [8] (fun i wr=>∃ j:Nat,j<=l.length/\i = .int .i64 j/\Wri w0 wr R K (blkW (acW k) (l.take j) s)) (fun i _=>l.length - (intOf i).toNat)
 case atStart=>exact ⟨0,Nat.zero_le _,rfl,HW.out⟩
 case round=>
  obtain ⟨j,hj,rfl,hw⟩:=hrel;have H1:=hid hw;clear hw
  by_cases hlt:j<l.length
  . obtain ⟨b,off,a1,k1,a2,k2,a3,k3,rfl,hx⟩:=HD.out.ac j hlt
    have hbl:b<wr.heap.size:=Nat.lt_of_lt_of_le hx.lt H1.out.below.size;have x0:=(H1.out.below.cell (p:=⟨b,off+j*7,none⟩) hx.lt).trans hx.c0;have x1:=(H1.out.below.cell (p:=⟨b,off+j*7+1,none⟩) hx.lt).trans hx.c1;have x2:=(H1.out.below.cell (p:=⟨b,off+j*7+2,none⟩) hx.lt).trans hx.c2;have x3:=(H1.out.below.cell (p:=⟨b,off+j*7+3,none⟩) hx.lt).trans hx.c3;have x4:=(H1.out.below.cell (p:=⟨b,off+j*7+4,none⟩) hx.lt).trans hx.c4;have x5:=(H1.out.below.cell (p:=⟨b,off+j*7+5,none⟩) hx.lt).trans hx.c5;have x6:=(H1.out.below.cell (p:=⟨b,off+j*7+6,none⟩) hx.lt).trans hx.c6;have HA:=hid (⟨hx.args',hx.body',hx.other'⟩:_/\_/\_);have HY:=hid (HN.out l[j] (List.getElem_mem hlt));have HT:=hid (fun h=>blkW_take (acW k) l s j hlt h);have HS:=hid (fun h=>blkW_stop (acW k) l s j h);have HR':=hid (HR.out (j+1))
    clear hx;generalize l[j]=x at *;have HB:=hid (H1.out.box (.cells #[.int .i64 x.op,.int .i64 x.n,.int .i64 x.m,.int .i64 x.at_,.slice a1 x.args.length k1,.slice a2 x.body.length k2,.slice a3 x.other.length k3] 109));go_wp2_with fail;refine (isFull_any HB.out).mono ?_
    cases hf:fullW (blkW (acW k) (l.take j) s) with
    | true=>
      rintro e w3 ⟨rfl,rfl⟩;have HS':=hid (HS.out hf);clear hf;go_wp2_with fail
      go_returns
      exact ⟨rfl,by rw [HS'.out];exact HB.out.tail⟩
    | false=>
      rintro e w3 ⟨rfl,rfl⟩;have HT':=hid (HT.out hf);rw [HT'.out] at HR';clear hf;go_wp2_with fail;refine (HY.out A a1 k1 a2 k2 a3 k3 K _ _ HA.out.1 HA.out.2.1 HA.out.2.2 HB.out.tail HR'.out).mono ?_;rintro e w4 ⟨rfl,h4⟩;have H4:=hid h4;clear h4;go_wp2_with fail;go_roundw
      case rel=>exact ⟨j+1,by omega,by go_num,by rw [HT'.out];exact H4.out⟩
      case measure=>simp [intOf];omega
  . obtain rfl:j=l.length:=by omega
    rw [List.take_length] at H1;go_wp2_with fail;go_end0;exact ⟨rfl,H1.out⟩
theorem wset0 {w0 w:World} {R k:Nat} {K:List (Nat × Obj)} {s:Wrt} {A:Nat->Prop} {op n m at_:Int} {args:List Nd} {body other:List Ac} {a1:Option Addr} {k1:Nat} {a2:Option Addr} {k2:Nat} {a3:Option Addr} {k3:Nat} (hN:∀ y ∈ args,NdC w0 R 6 y) (hD:DAt w0 A a1 args.length (ndsD args)) (h:Wri w0 w R K s) (hl:args.length=1) (hm:m = -1) (hr:(putW 3 at_ 0 (ndW 6 (argN args 0) s)).code.length<=1000000) :
 Calls Tryz.prog 214 #[.pointer (some ⟨R,0,none⟩),.agg #[.int .i64 op,.int .i64 n,.int .i64 m,.int .i64 at_,.slice a1 args.length k1,.slice a2 body.length k2,.slice a3 other.length k3]] w fun e w'=>e = .returned (.tuple #[])/\Wri w0 w' R K (putW 3 at_ 0 (ndW 6 (argN args 0) s)):=by
 subst hm;have HW:Hid (Wri w0 (w.alloc (.cells #[.int .i64 op,.int .i64 n,.int .i64 (-1),.int .i64 at_,.slice a1 args.length k1,.slice a2 body.length k2,.slice a3 other.length k3] 109)) R ((w.heap.size,(.cells #[.int .i64 op,.int .i64 n,.int .i64 (-1),.int .i64 at_,.slice a1 args.length k1,.slice a2 body.length k2,.slice a3 other.length k3] 109)) :: K) s):=h.box (.cells #[.int .i64 op,.int .i64 n,.int .i64 (-1),.int .i64 at_,.slice a1 args.length k1,.slice a2 body.length k2,.slice a3 other.length k3] 109)
 have hr0:(ndW 6 (argN args 0) s).code.length<=1000000:=by simp only [putW_len,fixW_len] at hr;omega
 obtain ⟨b,off,aa,ca,rfl,hA,hc⟩:=arg_at hD 0 (by omega);simp only [Nat.zero_mul,Nat.add_zero] at hc;have hy:=arg_mem hN 0 (by omega);generalize argN args 0=y at *;obtain ⟨z0,z1,z2,z3,z4⟩:=hc _ h.below
 have hb:b<w.heap.size:=by
  rcases Nat.lt_or_ge b w.heap.size with h' | h'
  . exact h'
  . simp [World.cell?,Array.getElem?_eq_none h'] at z0
 have hl0:0<args.length:=by omega
 have HC:=hid (hy A aa ca _ _ _ hA HW.out hr0);clear h hN hD hA hy hc hl;go_enter Tryz.func214,Tryz.ntmps214;go_wp2_with fail;refine (HC.out).mono ?_;rintro e w1 ⟨rfl,h1⟩;have H1:=hid h1;clear h1;obtain ⟨q0,q1,q2,q3,q4,q5,q6, -⟩:=cells7 H1.out.head;clear z0 z1 z2 z3 z4;go_wp2_with fail;refine (put_any 3 at_ 0 H1.out hr0).mono ?_;rintro e w2 ⟨rfl,h2⟩;have H2:=hid h2;clear h2;go_wp2_with fail
 go_returns
 exact ⟨rfl,H2.out.tail⟩
theorem wset1 {w0 w:World} {R k:Nat} {K:List (Nat × Obj)} {s:Wrt} {A:Nat->Prop} {op n m at_:Int} {args:List Nd} {body other:List Ac} {a1:Option Addr} {k1:Nat} {a2:Option Addr} {k2:Nat} {a3:Option Addr} {k3:Nat} (hN:∀ y ∈ args,NdC w0 R 6 y) (hD:DAt w0 A a1 args.length (ndsD args)) (h:Wri w0 w R K s) (hl:args.length=1) (hm:m≠-1) (hr:(fixW 3 m ⟨5,at_,0⟩ (ndW 6 (argN args 0) s)).code.length<=1000000) :
 Calls Tryz.prog 214 #[.pointer (some ⟨R,0,none⟩),.agg #[.int .i64 op,.int .i64 n,.int .i64 m,.int .i64 at_,.slice a1 args.length k1,.slice a2 body.length k2,.slice a3 other.length k3]] w fun e w'=>e = .returned (.tuple #[])/\Wri w0 w' R K (fixW 3 m ⟨5,at_,0⟩ (ndW 6 (argN args 0) s)):=by
 have HW:Hid (Wri w0 (w.alloc (.cells #[.int .i64 op,.int .i64 n,.int .i64 m,.int .i64 at_,.slice a1 args.length k1,.slice a2 body.length k2,.slice a3 other.length k3] 109)) R ((w.heap.size,(.cells #[.int .i64 op,.int .i64 n,.int .i64 m,.int .i64 at_,.slice a1 args.length k1,.slice a2 body.length k2,.slice a3 other.length k3] 109)) :: K) s):=h.box (.cells #[.int .i64 op,.int .i64 n,.int .i64 m,.int .i64 at_,.slice a1 args.length k1,.slice a2 body.length k2,.slice a3 other.length k3] 109)
 have hr0:(ndW 6 (argN args 0) s).code.length<=1000000:=by simp only [putW_len,fixW_len] at hr;omega
 obtain ⟨b,off,aa,ca,rfl,hA,hc⟩:=arg_at hD 0 (by omega);simp only [Nat.zero_mul,Nat.add_zero] at hc;have hy:=arg_mem hN 0 (by omega);generalize argN args 0=y at *;obtain ⟨z0,z1,z2,z3,z4⟩:=hc _ h.below
 have hb:b<w.heap.size:=by
  rcases Nat.lt_or_ge b w.heap.size with h' | h'
  . exact h'
  . simp [World.cell?,Array.getElem?_eq_none h'] at z0
 have hl0:0<args.length:=by omega
 have HC:=hid (hy A aa ca _ _ _ hA HW.out hr0);clear h hN hD hA hy hc hl;go_enter Tryz.func214,Tryz.ntmps214;go_wp2_with fail;refine (HC.out).mono ?_;rintro e w1 ⟨rfl,h1⟩;have H1:=hid h1;clear h1;obtain ⟨q0,q1,q2,q3,q4,q5,q6, -⟩:=cells7 H1.out.head;clear z0 z1 z2 z3 z4;go_wp2_with fail;refine (putFixed_any 3 m 5 at_ 0 H1.out hr0).mono ?_;rintro e w2 ⟨rfl,h2⟩;have H2:=hid h2;clear h2;go_wp2_with fail;go_end0;exact ⟨rfl,H2.out.tail⟩
theorem wbr0 {w0 w:World} {R k:Nat} {K:List (Nat × Obj)} {s:Wrt} {A:Nat->Prop} {op n m at_:Int} {args:List Nd} {body other:List Ac} {a1:Option Addr} {k1:Nat} {a2:Option Addr} {k2:Nat} {a3:Option Addr} {k3:Nat} (hN:∀ y ∈ args,NdC w0 R 6 y) (hD:DAt w0 A a1 args.length (ndsD args)) (h:Wri w0 w R K s) (hl:args.length=1) (hB:∀ y ∈ body,AcC w0 R k y) (dB:DAt w0 A a2 body.length (acsD body)) (hr:(landW (ndW 6 (argN args 0) s).code.length (blkW (acW k) body (jmpW 12 0 (ndW 6 (argN args 0) s)))).code.length<=1000000) :
 Calls Tryz.prog 218 #[.pointer (some ⟨R,0,none⟩),.agg #[.int .i64 op,.int .i64 n,.int .i64 m,.int .i64 at_,.slice a1 args.length k1,.slice a2 body.length k2,.slice a3 0 k3]] w fun e w'=>e = .returned (.tuple #[])/\Wri w0 w' R K (landW (ndW 6 (argN args 0) s).code.length (blkW (acW k) body (jmpW 12 0 (ndW 6 (argN args 0) s)))):=by
 have HW:Hid (Wri w0 (w.alloc (.cells #[.int .i64 op,.int .i64 n,.int .i64 m,.int .i64 at_,.slice a1 args.length k1,.slice a2 body.length k2,.slice a3 0 k3] 109)) R ((w.heap.size,(.cells #[.int .i64 op,.int .i64 n,.int .i64 m,.int .i64 at_,.slice a1 args.length k1,.slice a2 body.length k2,.slice a3 0 k3] 109)) :: K) s):=h.box (.cells #[.int .i64 op,.int .i64 n,.int .i64 m,.int .i64 at_,.slice a1 args.length k1,.slice a2 body.length k2,.slice a3 0 k3] 109);have m1:=blkW_mono (acW_mono k) body (jmpW 12 0 (ndW 6 (argN args 0) s));rw [jmpW_len] at m1
 have r1:(blkW (acW k) body (jmpW 12 0 (ndW 6 (argN args 0) s))).code.length<=1000000:=by simp only [landW_len] at hr;omega
 obtain ⟨b,off,aa,ca,rfl,hA,hc⟩:=arg_at hD 0 (by omega);simp only [Nat.zero_mul,Nat.add_zero] at hc;have hy:=arg_mem hN 0 (by omega);generalize argN args 0=y at *;obtain ⟨z0,z1,z2,z3,z4⟩:=hc _ h.below
 have hb:b<w.heap.size:=by
  rcases Nat.lt_or_ge b w.heap.size with h' | h'
  . exact h'
  . simp [World.cell?,Array.getElem?_eq_none h'] at z0
 have hl0:0<args.length:=by omega
 have HC:=hid (hy A aa ca _ _ _ hA HW.out (by omega));have HB:=hid (fun (K:List (Nat × Obj)) (s:Wrt) (w:World)=>wblock_any (w:=w) (K:=K) (s:=s) (cap:=k2) hB dB);clear h hN hD hA hy hc hl hB dB;go_enter Tryz.func218,Tryz.ntmps218;go_wp2_with fail;refine (HC.out).mono ?_;rintro e w1 ⟨rfl,h1⟩;have H1:=hid h1;clear h1;clear z0 z1 z2 z3 z4;go_wp2_with fail;refine (jump_any 12 H1.out (by omega)).mono ?_;rintro e w2 ⟨rfl,h2⟩;have H2:=hid h2;clear h2;obtain ⟨q0,q1,q2,q3,q4,q5,q6, -⟩:=cells7 (H2.out.has (List.mem_cons_of_mem _ (List.mem_cons_of_mem _ (List.mem_cons_self ..))));go_wp2_with fail;refine (HB.out _ _ _ H2.out r1).mono ?_;rintro e w3 ⟨rfl,h3⟩;have H3:=hid h3;clear h3;clear q0 q1 q2 q3 q4 q5 q6;obtain ⟨q0,q1,q2,q3,q4,q5,q6, -⟩:=cells7 (H3.out.has (List.mem_cons_of_mem _ (List.mem_cons_of_mem _ (List.mem_cons_self ..))))
 go_wp2_with (go_at_call 291;refine (land_any (b:=w1.heap.size) (k:=(ndW 6 y s).code.length) H3.out (by simp) (by simp) (by omega) r1).mono ?_;rintro e w4 ⟨rfl,h4⟩;have H4:=hid h4;clear h4)
 go_returns
 exact ⟨rfl,H4.out.tail.tail.tail⟩
theorem wbr1 {w0 w:World} {R k:Nat} {K:List (Nat × Obj)} {s:Wrt} {A:Nat->Prop} {op n m at_:Int} {args:List Nd} {body other:List Ac} {a1:Option Addr} {k1:Nat} {a2:Option Addr} {k2:Nat} {a3:Option Addr} {k3:Nat} (hN:∀ y ∈ args,NdC w0 R 6 y) (hD:DAt w0 A a1 args.length (ndsD args)) (h:Wri w0 w R K s) (hl:args.length=1) (hB:∀ y ∈ body,AcC w0 R k y) (dB:DAt w0 A a2 body.length (acsD body)) (hO:∀ y ∈ other,AcC w0 R k y) (dO:DAt w0 A a3 other.length (acsD other)) (hne:other.length≠0) (hr:(landW (blkW (acW k) body (jmpW 12 0 (ndW 6 (argN args 0) s))).code.length (blkW (acW k) other (landW (ndW 6 (argN args 0) s).code.length (jmpW 11 0 (blkW (acW k) body (jmpW 12 0 (ndW 6 (argN args 0) s))))))).code.length<=1000000) :
 Calls Tryz.prog 218 #[.pointer (some ⟨R,0,none⟩),.agg #[.int .i64 op,.int .i64 n,.int .i64 m,.int .i64 at_,.slice a1 args.length k1,.slice a2 body.length k2,.slice a3 other.length k3]] w fun e w'=>e = .returned (.tuple #[])/\Wri w0 w' R K (landW (blkW (acW k) body (jmpW 12 0 (ndW 6 (argN args 0) s))).code.length (blkW (acW k) other (landW (ndW 6 (argN args 0) s).code.length (jmpW 11 0 (blkW (acW k) body (jmpW 12 0 (ndW 6 (argN args 0) s))))))):=by
 have HW:Hid (Wri w0 (w.alloc (.cells #[.int .i64 op,.int .i64 n,.int .i64 m,.int .i64 at_,.slice a1 args.length k1,.slice a2 body.length k2,.slice a3 other.length k3] 109)) R ((w.heap.size,(.cells #[.int .i64 op,.int .i64 n,.int .i64 m,.int .i64 at_,.slice a1 args.length k1,.slice a2 body.length k2,.slice a3 other.length k3] 109)) :: K) s):=h.box (.cells #[.int .i64 op,.int .i64 n,.int .i64 m,.int .i64 at_,.slice a1 args.length k1,.slice a2 body.length k2,.slice a3 other.length k3] 109);have m1:=blkW_mono (acW_mono k) body (jmpW 12 0 (ndW 6 (argN args 0) s));have m2:=blkW_mono (acW_mono k) other (landW (ndW 6 (argN args 0) s).code.length (jmpW 11 0 (blkW (acW k) body (jmpW 12 0 (ndW 6 (argN args 0) s)))));rw [jmpW_len] at m1;rw [landW_len,jmpW_len] at m2
 have r2:(blkW (acW k) other (landW (ndW 6 (argN args 0) s).code.length (jmpW 11 0 (blkW (acW k) body (jmpW 12 0 (ndW 6 (argN args 0) s)))))).code.length<=1000000:=by simp only [landW_len] at hr;omega
 have r1:(blkW (acW k) body (jmpW 12 0 (ndW 6 (argN args 0) s))).code.length+1<=1000000:=by omega
 obtain ⟨b,off,aa,ca,rfl,hA,hc⟩:=arg_at hD 0 (by omega);simp only [Nat.zero_mul,Nat.add_zero] at hc;have hy:=arg_mem hN 0 (by omega);generalize argN args 0=y at *;obtain ⟨z0,z1,z2,z3,z4⟩:=hc _ h.below
 have hb:b<w.heap.size:=by
  rcases Nat.lt_or_ge b w.heap.size with h' | h'
  . exact h'
  . simp [World.cell?,Array.getElem?_eq_none h'] at z0
 have hl0:0<args.length:=by omega
 have hbo:=dO.bound;have HC:=hid (hy A aa ca _ _ _ hA HW.out (by omega));have HB:=hid (fun (K:List (Nat × Obj)) (s:Wrt) (w:World)=>wblock_any (w:=w) (K:=K) (s:=s) (cap:=k2) hB dB);have HO:=hid (fun (K:List (Nat × Obj)) (s:Wrt) (w:World)=>wblock_any (w:=w) (K:=K) (s:=s) (cap:=k3) hO dO);clear h hN hD hA hy hc hl hB dB hO dO;go_enter Tryz.func218,Tryz.ntmps218;go_wp2_with fail;refine (HC.out).mono ?_;rintro e w1 ⟨rfl,h1⟩;have H1:=hid h1;clear h1;clear z0 z1 z2 z3 z4;go_wp2_with fail;refine (jump_any 12 H1.out (by omega)).mono ?_;rintro e w2 ⟨rfl,h2⟩;have H2:=hid h2;clear h2;obtain ⟨q0,q1,q2,q3,q4,q5,q6, -⟩:=cells7 (H2.out.has (List.mem_cons_of_mem _ (List.mem_cons_of_mem _ (List.mem_cons_self ..))));go_wp2_with fail;refine (HB.out _ _ _ H2.out (by omega)).mono ?_;rintro e w3 ⟨rfl,h3⟩;have H3:=hid h3;clear h3;clear q0 q1 q2 q3 q4 q5 q6
 obtain ⟨q0,q1,q2,q3,q4,q5,q6, -⟩:=cells7 (H3.out.has (List.mem_cons_of_mem _ (List.mem_cons_of_mem _ (List.mem_cons_self ..))));go_wp2_with fail;refine (jump_any 11 H3.out (by omega)).mono ?_;rintro e w4 ⟨rfl,h4⟩;have H4:=hid h4;clear h4;clear q0 q1 q2 q3 q4 q5 q6
 go_wp2_with (go_at_call 291;refine (land_any (b:=w1.heap.size) (k:=(ndW 6 y s).code.length) H4.out (by simp) (by simp) (by simp only [landW_len,jmpW_len,putW_len,fixW_len];omega) (by simp only [landW_len,jmpW_len,putW_len,fixW_len];omega)).mono ?_;rintro e w5 ⟨rfl,h5⟩;have H5:=hid h5;clear h5;obtain ⟨q0,q1,q2,q3,q4,q5,q6, -⟩:=cells7 (H5.out.has (List.mem_cons_of_mem _ (List.mem_cons_of_mem _ (List.mem_cons_of_mem _ (List.mem_cons_of_mem _ (List.mem_cons_self ..)))))))
 refine (HO.out _ _ _ H5.out r2).mono ?_;rintro e w6 ⟨rfl,h6⟩;have H6:=hid h6;clear h6;clear q0 q1 q2 q3 q4 q5 q6
 go_wp2_with (go_at_call 291;refine (land_any (b:=w3.heap.size) (k:=(blkW (acW k) body (jmpW 12 0 (ndW 6 y s))).code.length) H6.out (by simp) (by simp) (by omega) r2).mono ?_;rintro e w7 ⟨rfl,h7⟩;have H7:=hid h7;clear h7)
 go_end0;exact ⟨rfl,H7.out.tail.tail.tail.tail.tail⟩
theorem wwh {w0 w:World} {R k:Nat} {K:List (Nat × Obj)} {s:Wrt} {A:Nat->Prop} {op n m at_:Int} {args:List Nd} {body other:List Ac} {a1:Option Addr} {k1:Nat} {a2:Option Addr} {k2:Nat} {a3:Option Addr} {k3:Nat} (hN:∀ y ∈ args,NdC w0 R 6 y) (hD:DAt w0 A a1 args.length (ndsD args)) (h:Wri w0 w R K s) (hl:args.length=1) (hB:∀ y ∈ body,AcC w0 R k y) (dB:DAt w0 A a2 body.length (acsD body)) (hr:(landW (ndW 6 (argN args 0) s).code.length (jmpW 11 s.code.length (blkW (acW k) body (putW 16 0 0 (jmpW 12 0 (ndW 6 (argN args 0) s)))))).code.length<=1000000) :
 Calls Tryz.prog 219 #[.pointer (some ⟨R,0,none⟩),.agg #[.int .i64 op,.int .i64 n,.int .i64 m,.int .i64 at_,.slice a1 args.length k1,.slice a2 body.length k2,.slice a3 other.length k3]] w fun e w'=>e = .returned (.tuple #[])/\Wri w0 w' R K (landW (ndW 6 (argN args 0) s).code.length (jmpW 11 s.code.length (blkW (acW k) body (putW 16 0 0 (jmpW 12 0 (ndW 6 (argN args 0) s)))))):=by
 have HW:Hid (Wri w0 (w.alloc (.cells #[.int .i64 op,.int .i64 n,.int .i64 m,.int .i64 at_,.slice a1 args.length k1,.slice a2 body.length k2,.slice a3 other.length k3] 109)) R ((w.heap.size,(.cells #[.int .i64 op,.int .i64 n,.int .i64 m,.int .i64 at_,.slice a1 args.length k1,.slice a2 body.length k2,.slice a3 other.length k3] 109)) :: K) s):=h.box (.cells #[.int .i64 op,.int .i64 n,.int .i64 m,.int .i64 at_,.slice a1 args.length k1,.slice a2 body.length k2,.slice a3 other.length k3] 109);have m0:=ndW_mono 6 (argN args 0) s;have m1:=blkW_mono (acW_mono k) body (putW 16 0 0 (jmpW 12 0 (ndW 6 (argN args 0) s)));rw [putW_len,jmpW_len] at m1
 have r1:(blkW (acW k) body (putW 16 0 0 (jmpW 12 0 (ndW 6 (argN args 0) s)))).code.length+1<=1000000:=by simp only [landW_len,jmpW_len] at hr;omega
 obtain ⟨b,off,aa,ca,rfl,hA,hc⟩:=arg_at hD 0 (by omega);simp only [Nat.zero_mul,Nat.add_zero] at hc;have hy:=arg_mem hN 0 (by omega);generalize argN args 0=y at *;obtain ⟨z0,z1,z2,z3,z4⟩:=hc _ h.below
 have hb:b<w.heap.size:=by
  rcases Nat.lt_or_ge b w.heap.size with h' | h'
  . exact h'
  . simp [World.cell?,Array.getElem?_eq_none h'] at z0
 have hl0:0<args.length:=by omega
 have HE:=hid (here_any HW.out);have HC:=hid (hy A aa ca _ _ _ hA HW.out (by omega));have HB:=hid (fun (K:List (Nat × Obj)) (s:Wrt) (w:World)=>wblock_any (w:=w) (K:=K) (s:=s) (cap:=k2) hB dB);clear h hN hD hA hy hc hl hB dB;go_enter Tryz.func219,Tryz.ntmps219;go_wp2_with fail;refine HE.out.mono ?_;rintro e w9 ⟨rfl,rfl⟩;go_wp2_with fail;refine (HC.out).mono ?_;rintro e w1 ⟨rfl,h1⟩;have H1:=hid h1;clear h1;clear z0 z1 z2 z3 z4;go_wp2_with fail;refine (jump_any 12 H1.out (by omega)).mono ?_;rintro e w2 ⟨rfl,h2⟩;have H2:=hid h2;clear h2;go_wp2_with fail;refine (put_any 16 0 0 H2.out (by simp only [landW_len,jmpW_len,putW_len,fixW_len];omega)).mono ?_;rintro e w3 ⟨rfl,h3⟩;have H3:=hid h3;clear h3;obtain ⟨q0,q1,q2,q3,q4,q5,q6, -⟩:=cells7 (H3.out.has (List.mem_cons_of_mem _ (List.mem_cons_of_mem _ (List.mem_cons_self ..))));go_wp2_with fail
 refine (HB.out _ _ _ H3.out (by omega)).mono ?_;rintro e w4 ⟨rfl,h4⟩;have H4:=hid h4;clear h4;clear q0 q1 q2 q3 q4 q5 q6;go_wp2_with fail;refine (jumpTo_any 11 s.code.length H4.out (by omega)).mono ?_;rintro e w5 ⟨rfl,h5⟩;have H5:=hid h5;clear h5
 go_wp2_with (go_at_call 291;refine (land_any (b:=w1.heap.size) (k:=(ndW 6 y s).code.length) H5.out (by simp) (by simp) (by simp only [landW_len,jmpW_len,putW_len,fixW_len];omega) (by simp only [landW_len,jmpW_len,putW_len,fixW_len];omega)).mono ?_;rintro e w6 ⟨rfl,h6⟩;have H6:=hid h6;clear h6)
 go_end0;exact ⟨rfl,H6.out.tail.tail.tail⟩
end Go.Proofs.YtndkhgakfodldaaGreatDoor
