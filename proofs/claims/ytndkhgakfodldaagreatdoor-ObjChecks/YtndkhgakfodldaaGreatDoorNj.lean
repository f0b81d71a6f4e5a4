/-
  Package gen: a statement.
-/
import Derived.Test.YtndkhgakfodldaaGreatDoorNh
namespace Go.Proofs.YtndkhgakfodldaaGreatDoor
set_option maxRecDepth 100000
set_option maxHeartbeats 1600000
open Go.RowKit Go.Maps Go.WideMaps
set_option linter.unusedSimpArgs false
set_option linter.unusedVariables false
theorem wact1 {w0 w:World} {R:Nat} {K:List (Nat × Obj)} {n m at_:Int} {args:List Nd} {body other:List Ac} {a1:Option Addr} {k1:Nat} {a2:Option Addr} {k2:Nat} {a3:Option Addr} {k3:Nat} {s':Wrt} (HC:Hid (Calls Tryz.prog 214 #[.pointer (some ⟨R,0,none⟩),.agg #[.int .i64 1,.int .i64 n,.int .i64 m,.int .i64 at_,.slice a1 args.length k1,.slice a2 body.length k2,.slice a3 other.length k3]] (w.alloc (.cells #[.int .i64 1,.int .i64 n,.int .i64 m,.int .i64 at_,.slice a1 args.length k1,.slice a2 body.length k2,.slice a3 other.length k3] 109)) fun e w'=>e = .returned (.tuple #[])/\Wri w0 w' R ((w.heap.size,(.cells #[.int .i64 1,.int .i64 n,.int .i64 m,.int .i64 at_,.slice a1 args.length k1,.slice a2 body.length k2,.slice a3 other.length k3] 109)) :: K) s')) :
 Calls Tryz.prog 172 #[.pointer (some ⟨R,0,none⟩),.agg #[.int .i64 1,.int .i64 n,.int .i64 m,.int .i64 at_,.slice a1 args.length k1,.slice a2 body.length k2,.slice a3 other.length k3]] w fun e w'=>e = .returned (.tuple #[])/\Wri w0 w' R K s':=by
 go_enter Tryz.func172,Tryz.ntmps172;go_wp2_with fail;refine (HC.out).mono ?_;rintro e w1 ⟨rfl,h1⟩;have H1:=hid h1;clear h1;go_wp2_with fail;go_end0;exact ⟨rfl,H1.out.tail⟩
theorem wact4 {w0 w:World} {R:Nat} {K:List (Nat × Obj)} {n m at_:Int} {args:List Nd} {body other:List Ac} {a1:Option Addr} {k1:Nat} {a2:Option Addr} {k2:Nat} {a3:Option Addr} {k3:Nat} {s':Wrt} (HC:Hid (Calls Tryz.prog 218 #[.pointer (some ⟨R,0,none⟩),.agg #[.int .i64 4,.int .i64 n,.int .i64 m,.int .i64 at_,.slice a1 args.length k1,.slice a2 body.length k2,.slice a3 other.length k3]] (w.alloc (.cells #[.int .i64 4,.int .i64 n,.int .i64 m,.int .i64 at_,.slice a1 args.length k1,.slice a2 body.length k2,.slice a3 other.length k3] 109)) fun e w'=>e = .returned (.tuple #[])/\Wri w0 w' R ((w.heap.size,(.cells #[.int .i64 4,.int .i64 n,.int .i64 m,.int .i64 at_,.slice a1 args.length k1,.slice a2 body.length k2,.slice a3 other.length k3] 109)) :: K) s')) :
 Calls Tryz.prog 172 #[.pointer (some ⟨R,0,none⟩),.agg #[.int .i64 4,.int .i64 n,.int .i64 m,.int .i64 at_,.slice a1 args.length k1,.slice a2 body.length k2,.slice a3 other.length k3]] w fun e w'=>e = .returned (.tuple #[])/\Wri w0 w' R K s':=by
 go_enter Tryz.func172,Tryz.ntmps172;go_wp2_with fail;refine (HC.out).mono ?_;rintro e w1 ⟨rfl,h1⟩;have H1:=hid h1;clear h1;go_wp2_with fail;go_end0;exact ⟨rfl,H1.out.tail⟩
theorem wact5 {w0 w:World} {R:Nat} {K:List (Nat × Obj)} {n m at_:Int} {args:List Nd} {body other:List Ac} {a1:Option Addr} {k1:Nat} {a2:Option Addr} {k2:Nat} {a3:Option Addr} {k3:Nat} {s':Wrt} (HC:Hid (Calls Tryz.prog 219 #[.pointer (some ⟨R,0,none⟩),.agg #[.int .i64 5,.int .i64 n,.int .i64 m,.int .i64 at_,.slice a1 args.length k1,.slice a2 body.length k2,.slice a3 other.length k3]] (w.alloc (.cells #[.int .i64 5,.int .i64 n,.int .i64 m,.int .i64 at_,.slice a1 args.length k1,.slice a2 body.length k2,.slice a3 other.length k3] 109)) fun e w'=>e = .returned (.tuple #[])/\Wri w0 w' R ((w.heap.size,(.cells #[.int .i64 5,.int .i64 n,.int .i64 m,.int .i64 at_,.slice a1 args.length k1,.slice a2 body.length k2,.slice a3 other.length k3] 109)) :: K) s')) :
 Calls Tryz.prog 172 #[.pointer (some ⟨R,0,none⟩),.agg #[.int .i64 5,.int .i64 n,.int .i64 m,.int .i64 at_,.slice a1 args.length k1,.slice a2 body.length k2,.slice a3 other.length k3]] w fun e w'=>e = .returned (.tuple #[])/\Wri w0 w' R K s':=by
 go_enter Tryz.func172,Tryz.ntmps172;go_wp2_with fail;refine (HC.out).mono ?_;rintro e w1 ⟨rfl,h1⟩;have H1:=hid h1;clear h1;go_wp2_with fail;go_end0;exact ⟨rfl,H1.out.tail⟩
theorem wact6 {w0 w:World} {R k:Nat} {K:List (Nat × Obj)} {s:Wrt} {A:Nat->Prop} {n m at_:Int} {args:List Nd} {body other:List Ac} {a1:Option Addr} {k1:Nat} {a2:Option Addr} {k2:Nat} {a3:Option Addr} {k3:Nat} (hN:∀ y ∈ args,NdC w0 R 6 y) (hD:DAt w0 A a1 args.length (ndsD args)) (h:Wri w0 w R K s) (hl:args.length=1) (hr:(putW 15 0 0 (ndW 6 (argN args 0) s)).code.length<=1000000) :
 Calls Tryz.prog 172 #[.pointer (some ⟨R,0,none⟩),.agg #[.int .i64 6,.int .i64 n,.int .i64 m,.int .i64 at_,.slice a1 args.length k1,.slice a2 body.length k2,.slice a3 other.length k3]] w fun e w'=>e = .returned (.tuple #[])/\Wri w0 w' R K (putW 15 0 0 (ndW 6 (argN args 0) s)):=by
 have HW:Hid (Wri w0 (w.alloc (.cells #[.int .i64 6,.int .i64 n,.int .i64 m,.int .i64 at_,.slice a1 args.length k1,.slice a2 body.length k2,.slice a3 other.length k3] 109)) R ((w.heap.size,(.cells #[.int .i64 6,.int .i64 n,.int .i64 m,.int .i64 at_,.slice a1 args.length k1,.slice a2 body.length k2,.slice a3 other.length k3] 109)) :: K) s):=h.box (.cells #[.int .i64 6,.int .i64 n,.int .i64 m,.int .i64 at_,.slice a1 args.length k1,.slice a2 body.length k2,.slice a3 other.length k3] 109)
 have hr0:(ndW 6 (argN args 0) s).code.length<=1000000:=by simp only [putW_len] at hr;omega
 obtain ⟨b,off,aa,ca,rfl,hA,hc⟩:=arg_at hD 0 (by omega);simp only [Nat.zero_mul,Nat.add_zero] at hc;have hy:=arg_mem hN 0 (by omega);generalize argN args 0=y at *;obtain ⟨z0,z1,z2,z3,z4⟩:=hc _ h.below
 have hb:b<w.heap.size:=by
  rcases Nat.lt_or_ge b w.heap.size with h' | h'
  . exact h'
  . simp [World.cell?,Array.getElem?_eq_none h'] at z0
 have hl0:0<args.length:=by omega
 have HC:=hid (hy A aa ca _ _ _ hA HW.out hr0);clear h hN hD hA hy hc hl;go_enter Tryz.func172,Tryz.ntmps172;go_wp2_with fail;refine (HC.out).mono ?_;rintro e w1 ⟨rfl,h1⟩;have H1:=hid h1;clear h1;clear z0 z1 z2 z3 z4;go_wp2_with fail;refine (put_any 15 0 0 H1.out hr0).mono ?_;rintro e w2 ⟨rfl,h2⟩;have H2:=hid h2;clear h2;go_wp2_with fail;go_end0;exact ⟨rfl,H2.out.tail⟩
theorem wact7 {w0 w:World} {R k:Nat} {K:List (Nat × Obj)} {s:Wrt} {A:Nat->Prop} {n m at_:Int} {args:List Nd} {body other:List Ac} {a1:Option Addr} {k1:Nat} {a2:Option Addr} {k2:Nat} {a3:Option Addr} {k3:Nat} (hN:∀ y ∈ args,NdC w0 R 6 y) (hD:DAt w0 A a1 args.length (ndsD args)) (h:Wri w0 w R K s) (hl:args.length=1) (hr:(putW 19 0 0 (ndW 6 (argN args 0) s)).code.length<=1000000) :
 Calls Tryz.prog 172 #[.pointer (some ⟨R,0,none⟩),.agg #[.int .i64 7,.int .i64 n,.int .i64 m,.int .i64 at_,.slice a1 args.length k1,.slice a2 body.length k2,.slice a3 other.length k3]] w fun e w'=>e = .returned (.tuple #[])/\Wri w0 w' R K (putW 19 0 0 (ndW 6 (argN args 0) s)):=by
 have HW:Hid (Wri w0 (w.alloc (.cells #[.int .i64 7,.int .i64 n,.int .i64 m,.int .i64 at_,.slice a1 args.length k1,.slice a2 body.length k2,.slice a3 other.length k3] 109)) R ((w.heap.size,(.cells #[.int .i64 7,.int .i64 n,.int .i64 m,.int .i64 at_,.slice a1 args.length k1,.slice a2 body.length k2,.slice a3 other.length k3] 109)) :: K) s):=h.box (.cells #[.int .i64 7,.int .i64 n,.int .i64 m,.int .i64 at_,.slice a1 args.length k1,.slice a2 body.length k2,.slice a3 other.length k3] 109)
 have hr0:(ndW 6 (argN args 0) s).code.length<=1000000:=by simp only [putW_len] at hr;omega
 obtain ⟨b,off,aa,ca,rfl,hA,hc⟩:=arg_at hD 0 (by omega);simp only [Nat.zero_mul,Nat.add_zero] at hc;have hy:=arg_mem hN 0 (by omega);generalize argN args 0=y at *;obtain ⟨z0,z1,z2,z3,z4⟩:=hc _ h.below
 have hb:b<w.heap.size:=by
  rcases Nat.lt_or_ge b w.heap.size with h' | h'
  . exact h'
  . simp [World.cell?,Array.getElem?_eq_none h'] at z0
 have hl0:0<args.length:=by omega
 have HC:=hid (hy A aa ca _ _ _ hA HW.out hr0);clear h hN hD hA hy hc hl;go_enter Tryz.func172,Tryz.ntmps172;go_wp2_with fail;refine (HC.out).mono ?_;rintro e w1 ⟨rfl,h1⟩;have H1:=hid h1;clear h1;clear z0 z1 z2 z3 z4;go_wp2_with fail;refine (put_any 19 0 0 H1.out hr0).mono ?_;rintro e w2 ⟨rfl,h2⟩;have H2:=hid h2;clear h2;go_wp2_with fail;go_end0;exact ⟨rfl,H2.out.tail⟩
theorem wact3 {w0 w:World} {R k:Nat} {K:List (Nat × Obj)} {s:Wrt} {A:Nat->Prop} {n m at_:Int} {args:List Nd} {body other:List Ac} {a1:Option Addr} {k1:Nat} {a2:Option Addr} {k2:Nat} {a3:Option Addr} {k3:Nat} (hN:∀ y ∈ args,NdC w0 R 6 y) (hD:DAt w0 A a1 args.length (ndsD args)) (h:Wri w0 w R K s) (hr:(putW 17 0 0 (callW (ndsW (ndW 6) args) m at_ s)).code.length<=1000000) :
 Calls Tryz.prog 172 #[.pointer (some ⟨R,0,none⟩),.agg #[.int .i64 3,.int .i64 n,.int .i64 m,.int .i64 at_,.slice a1 args.length k1,.slice a2 body.length k2,.slice a3 other.length k3]] w fun e w'=>e = .returned (.tuple #[])/\Wri w0 w' R K (putW 17 0 0 (callW (ndsW (ndW 6) args) m at_ s)):=by
 have HW:Hid (Wri w0 (w.alloc (.cells #[.int .i64 3,.int .i64 n,.int .i64 m,.int .i64 at_,.slice a1 args.length k1,.slice a2 body.length k2,.slice a3 other.length k3] 109)) R ((w.heap.size,(.cells #[.int .i64 3,.int .i64 n,.int .i64 m,.int .i64 at_,.slice a1 args.length k1,.slice a2 body.length k2,.slice a3 other.length k3] 109)) :: K) s):=h.box (.cells #[.int .i64 3,.int .i64 n,.int .i64 m,.int .i64 at_,.slice a1 args.length k1,.slice a2 body.length k2,.slice a3 other.length k3] 109)
 have hr0:(ndsW (ndW 6) args s).code.length+1<=1000000:=by simp only [putW_len,callW,fixW_len] at hr;omega
 have HC:=hid (wcall_any (cap:=k1) m at_ hN hD HW.out (by omega));clear h hN hD;go_enter Tryz.func172,Tryz.ntmps172;go_wp2_with fail;refine (HC.out).mono ?_;rintro e w1 ⟨rfl,h1⟩;have H1:=hid h1;clear h1;go_wp2_with fail;refine (put_any 17 0 0 H1.out (by simp only [callW,fixW_len];omega)).mono ?_;rintro e w2 ⟨rfl,h2⟩;have H2:=hid h2;clear h2;go_wp2_with fail;go_end0;exact ⟨rfl,H2.out.tail⟩
theorem wact2 {w0 w:World} {R k:Nat} {K:List (Nat × Obj)} {s:Wrt} {A:Nat->Prop} {n m at_:Int} {args:List Nd} {body other:List Ac} {a1:Option Addr} {k1:Nat} {a2:Option Addr} {k2:Nat} {a3:Option Addr} {k3:Nat} (hN:∀ y ∈ args,NdC w0 R 6 y) (hD:DAt w0 A a1 args.length (ndsD args)) (h:Wri w0 w R K s) (hl:args.length=2) (hr:(putW 8 0 0 (ndW 6 (argN args 1) (idxW (ndW 6 (argN args 0)) n m at_ s))).code.length<=1000000) :
 Calls Tryz.prog 172 #[.pointer (some ⟨R,0,none⟩),.agg #[.int .i64 2,.int .i64 n,.int .i64 m,.int .i64 at_,.slice a1 args.length k1,.slice a2 body.length k2,.slice a3 other.length k3]] w fun e w'=>e = .returned (.tuple #[])/\Wri w0 w' R K (putW 8 0 0 (ndW 6 (argN args 1) (idxW (ndW 6 (argN args 0)) n m at_ s))):=by
 have HW:Hid (Wri w0 (w.alloc (.cells #[.int .i64 2,.int .i64 n,.int .i64 m,.int .i64 at_,.slice a1 args.length k1,.slice a2 body.length k2,.slice a3 other.length k3] 109)) R ((w.heap.size,(.cells #[.int .i64 2,.int .i64 n,.int .i64 m,.int .i64 at_,.slice a1 args.length k1,.slice a2 body.length k2,.slice a3 other.length k3] 109)) :: K) s):=h.box (.cells #[.int .i64 2,.int .i64 n,.int .i64 m,.int .i64 at_,.slice a1 args.length k1,.slice a2 body.length k2,.slice a3 other.length k3] 109);have m1:=ndW_mono 6 (argN args 1) (idxW (ndW 6 (argN args 0)) n m at_ s)
 have r1:(ndW 6 (argN args 1) (idxW (ndW 6 (argN args 0)) n m at_ s)).code.length<=1000000:=by simp only [putW_len] at hr;omega
 have r0:(ndW 6 (argN args 0) s).code.length<=1000000:=by simp only [idxW,fixW_len] at m1 r1;omega
 obtain ⟨b,off,aa,ca,rfl,hA,hc⟩:=arg_at hD 0 (by omega);obtain ⟨b',off',ab,cb,hbb,hB,hd⟩:=arg_at hD 1 (by omega);cases hbb;simp only [Nat.zero_mul,Nat.add_zero] at hc;simp only [Nat.one_mul] at hd;have hy:=arg_mem hN 0 (by omega);have hz:=arg_mem hN 1 (by omega);generalize argN args 0=y at *;generalize argN args 1=z at *;have HC:=hid (windex_any (cp:=ca) n m at_ hy hA HW.out.drew r0);have HZ:=hid (fun (W:World) (h:Wri w0 W R ((w.heap.size,(.cells #[.int .i64 2,.int .i64 n,.int .i64 m,.int .i64 at_,.slice (some ⟨b,off,none⟩) args.length k1,.slice a2 body.length k2,.slice a3 other.length k3] 109)) :: K) (idxW (ndW 6 y) n m at_ s))=>hz A ab cb _ _ W hB h r1)
 have HS:Hid (∀ W s',Wri w0 W R ((w.heap.size,(.cells #[.int .i64 2,.int .i64 n,.int .i64 m,.int .i64 at_,.slice (some ⟨b,off,none⟩) args.length k1,.slice a2 body.length k2,.slice a3 other.length k3] 109)) :: K) s'->W.cell? ⟨w.heap.size,1,none⟩=some (.int .i64 n)/\W.cell? ⟨w.heap.size,2,none⟩=some (.int .i64 m)/\W.cell? ⟨w.heap.size,3,none⟩=some (.int .i64 at_)/\W.cell? ⟨w.heap.size,4,none⟩=some (.slice (some ⟨b,off,none⟩) args.length k1)/\W.cell? ⟨b,off,none⟩=some (.int .i64 y.op)/\W.cell? ⟨b,off+1,none⟩=some (.int .i64 y.n)/\W.cell? ⟨b,off+2,none⟩=some (.int .i64 y.m)/\W.cell? ⟨b,off+3,none⟩=some (.int .i64 y.at_)/\W.cell? ⟨b,off+4,none⟩=some (.slice aa y.args.length ca)):=fun W s' hW=>by
  obtain ⟨q0,q1,q2,q3,q4,q5,q6, -⟩:=cells7 hW.head;obtain ⟨z0,z1,z2,z3,z4⟩:=hc W hW.below;exact ⟨q1,q2,q3,q4,z0,z1,z2,z3,z4⟩
 have HS2:Hid (∀ W s',Wri w0 W R ((w.heap.size,(.cells #[.int .i64 2,.int .i64 n,.int .i64 m,.int .i64 at_,.slice (some ⟨b,off,none⟩) args.length k1,.slice a2 body.length k2,.slice a3 other.length k3] 109)) :: K) s'->W.cell? ⟨w.heap.size,4,none⟩=some (.slice (some ⟨b,off,none⟩) args.length k1)/\W.cell? ⟨b,off+5,none⟩=some (.int .i64 z.op)/\W.cell? ⟨b,off+5+1,none⟩=some (.int .i64 z.n)/\W.cell? ⟨b,off+5+2,none⟩=some (.int .i64 z.m)/\W.cell? ⟨b,off+5+3,none⟩=some (.int .i64 z.at_)/\W.cell? ⟨b,off+5+4,none⟩=some (.slice ab z.args.length cb)):=fun W s' hW=>by
  obtain ⟨q0,q1,q2,q3,q4,q5,q6, -⟩:=cells7 hW.head;obtain ⟨z0,z1,z2,z3,z4⟩:=hd W hW.below;exact ⟨q4,z0,z1,z2,z3,z4⟩
 have HD:=hid HW.out.drew
 have hl0:1<args.length:=by omega
 clear h hN hD hA hB hy hz hc hd hl;go_enter Tryz.func172,Tryz.ntmps172;go_upto_region 5 with fail
 go_region_held (fun W=>W.cell? ⟨w.heap.size,1,none⟩=some (.int .i64 n)/\W.cell? ⟨w.heap.size,2,none⟩=some (.int .i64 m)/\W.cell? ⟨w.heap.size,3,none⟩=some (.int .i64 at_)/\W.cell? ⟨w.heap.size,4,none⟩=some (.slice (some ⟨b,off,none⟩) args.length k1)/\W.cell? ⟨b,off,none⟩=some (.int .i64 y.op)/\W.cell? ⟨b,off+1,none⟩=some (.int .i64 y.n)/\W.cell? ⟨b,off+2,none⟩=some (.int .i64 y.m)/\W.cell? ⟨b,off+3,none⟩=some (.int .i64 y.at_)/\W.cell? ⟨b,off+4,none⟩=some (.slice aa y.args.length ca)) (first | with_reducible exact HS.out _ _ HW.out | with_reducible exact HS.out _ _ HD.out | with_reducible exact HS.out _ _ H1.out)
  (first
    | (go_at_call 215;refine HC.out.mono ?_;rintro e w1 ⟨rfl,h1⟩;have H1:=hid h1;clear h1))
 all_goals
  obtain ⟨q4,z0,z1,z2,z3,z4⟩:=HS2.out _ _ H1.out;go_wp2_with fail;refine (HZ.out _ H1.out).mono ?_;rintro e w2 ⟨rfl,h2⟩;have H2:=hid h2;clear h2 q4 z0 z1 z2 z3 z4;go_wp2_with fail;refine (put_any 8 0 0 H2.out r1).mono ?_;rintro e w3 ⟨rfl,h3⟩;have H3:=hid h3;clear h3;go_wp2_with fail;go_end0;exact ⟨rfl,H3.out.tail⟩
def acStep (f:Ac->Wrt->Wrt) (op n m at_:Int) (args:List Nd) (body other:List Ac) (s:Wrt):Wrt:=
 if op=1 then setW (ndW 6 (argN args 0)) m at_ s
 else if op=2 then putW 8 0 0 (ndW 6 (argN args 1) (idxW (ndW 6 (argN args 0)) n m at_ s))
 else if op=3 then putW 17 0 0 (callW (ndsW (ndW 6) args) m at_ s)
 else if op=4 then brW (ndW 6 (argN args 0)) (blkW f body) (blkW f other) other.isEmpty s
 else if op=5 then whW (ndW 6 (argN args 0)) (blkW f body) s
 else if op=6 then putW 15 0 0 (ndW 6 (argN args 0) s)
 else if op=7 then putW 19 0 0 (ndW 6 (argN args 0) s)
 else s
theorem acW_succ (k:Nat) (op n m at_:Int) (args:List Nd) (body other:List Ac) (s:Wrt):acW (k+1) ⟨op,n,m,at_,args,body,other⟩ s=acStep (acW k) op n m at_ args body other s:=rfl
theorem actA_args {c:Ck} {op n m at_:Int} {args:List Nd} {body other:List Ac} (h:actA c ⟨op,n,m,at_,args,body,other⟩=true):(1<=op/\op<=7)/\(op=2->args.length=2)/\(op≠2->op≠3->args.length=1):=by
 unfold actA at h
 by_cases e1:op=1
 . subst e1
   simp [Ac.op,Ac.args] at h;exact ⟨by decide,fun h=>absurd h (by decide),fun _ _=>of_decide_eq_true h.1⟩
 by_cases e2:op=2
 . subst e2
   simp [Ac.op,Ac.args] at h;exact ⟨by decide,fun _=>of_decide_eq_true h.1,fun h=>absurd rfl h⟩
 by_cases e3:op=3
 . subst e3
   exact ⟨by decide,fun h=>absurd h (by decide),fun _ h=>absurd rfl h⟩
 by_cases e4:4<=op/\op<=7
 . simp [Ac.op,Ac.args,e1,e2,e3,e4] at h
   exact ⟨by omega,fun h=>absurd h e2,fun _ _=>of_decide_eq_true h.1⟩
 . simp [Ac.op,Ac.args,e1,e2,e3,e4] at h
theorem wact_of {w0:World} {R k:Nat} {c:Ck} {x:Ac} (hx:actA c x=true) (hN:∀ y ∈ x.args,NdC w0 R 6 y) (hB:∀ y ∈ x.body,AcC w0 R k y) (hO:∀ y ∈ x.other,AcC w0 R k y):AcC w0 R (k+1) x:=by
 obtain ⟨op,n,m,at_,args,body,other⟩:=x;intro A a1 k1 a2 k2 a3 k3 K s w hD dB dO h hr;obtain ⟨⟨o1,o7⟩,l2,l1⟩:=actA_args hx;rw [acW_succ] at hr ⊢;unfold acStep at hr ⊢;simp only [Ac.op,Ac.n,Ac.m,Ac.at_,Ac.args,Ac.body,Ac.other] at hD dB dO hN hB hO ⊢
 by_cases e1:op=1
 . rw [if_pos e1] at hr ⊢
   subst e1;unfold setW at hr ⊢;refine wact1 ?_
   by_cases hm:m = -1
   . rw [if_pos hm] at hr ⊢;exact wset0 (k:=0) hN hD (h.box _) (l1 (by decide) (by decide)) hm hr
   . rw [if_neg hm] at hr ⊢;exact wset1 (k:=0) hN hD (h.box _) (l1 (by decide) (by decide)) hm hr
 rw [if_neg e1] at hr ⊢
 by_cases e2:op=2
 . rw [if_pos e2] at hr ⊢
   subst e2;exact wact2 (k:=0) hN hD h (l2 rfl) hr
 rw [if_neg e2] at hr ⊢
 by_cases e3:op=3
 . rw [if_pos e3] at hr ⊢
   subst e3;exact wact3 (k:=0) hN hD h hr
 rw [if_neg e3] at hr ⊢;have hl:=l1 e2 e3
 by_cases e4:op=4
 . rw [if_pos e4] at hr ⊢
   subst e4;refine wact4 ?_;unfold brW at hr ⊢
   cases other with
   | nil=>exact wbr0 (other:=[]) hN hD (h.box _) hl hB dB hr
   | cons o r=>exact wbr1 hN hD (h.box _) hl hB dB hO dO (by simp) hr
 rw [if_neg e4] at hr ⊢
 by_cases e5:op=5
 . rw [if_pos e5] at hr ⊢
   subst e5;exact wact5 (wwh hN hD (h.box _) hl hB dB hr)
 rw [if_neg e5] at hr ⊢
 by_cases e6:op=6
 . rw [if_pos e6] at hr ⊢
   subst e6;exact wact6 (k:=0) hN hD h hl hr
 rw [if_neg e6] at hr ⊢
 by_cases e7:op=7
 . rw [if_pos e7] at hr ⊢
   subst e7;exact wact7 (k:=0) hN hD h hl hr
 . omega
theorem wact_any {w0:World} {R:Nat} {c:Ck}:∀ (k:Nat) (l:List Ac),acsB c k l=true->∀ y ∈ l,AcC w0 R k y
 | 0,l,h=>by simp [acsB] at h
 | k + 1,l,h=>fun y hy=>by
   simp only [acsB,Bool.and_eq_true,List.all_eq_true] at h;obtain ⟨h1,h2,h3⟩:=h.2 y hy
   have hN:∀ z ∈ y.args,NdC w0 R 6 z:=fun z hz=>by
    rw [show ndsB c 6 y.args=y.args.all (fun x=>nodeA c x&&ndsB c 5 x.args) from rfl,List.all_eq_true] at h2;have h4:=h2 z hz;rw [Bool.and_eq_true] at h4;exact wnode_any 5 z h4.1 h4.2
   have nil:∀ (q:List Ac),q.length=0->∀ z ∈ q,AcC w0 R k z:=fun q hq z hz=>by
    rw [List.eq_nil_of_length_eq_zero hq] at hz;simp at hz
   refine wact_of h1 hN ?_ ?_
   . split at h3
     . exact wact_any k _ (Bool.and_eq_true .. ▸ h3).1
     . split at h3
       . exact wact_any k _ (Bool.and_eq_true .. ▸ h3).1
       . simp only [Bool.and_eq_true,decide_eq_true_eq] at h3
         exact nil _ h3.1
   . split at h3
     . exact wact_any k _ (Bool.and_eq_true .. ▸ h3).2
     . split at h3
       . simp only [Bool.and_eq_true,decide_eq_true_eq] at h3
         exact nil _ h3.2
       . simp only [Bool.and_eq_true,decide_eq_true_eq] at h3
         exact nil _ h3.2
end Go.Proofs.YtndkhgakfodldaaGreatDoor

namespace Go.Proofs.YtndkhgakfodldaaGreatDoor
set_option maxRecDepth 100000
set_option maxHeartbeats 1600000
open Go.RowKit Go.Maps Go.WideMaps
set_option linter.unusedSimpArgs false
set_option linter.unusedVariables false
def grw:Nat->Nat
 | 0=>0
 | k+1=>3*grw k+4
theorem ndsW_grow {f:Nd->Wrt->Wrt} {g:Nat}:∀ (l:List Nd),(∀ y ∈ l,∀ s,(f y s).code.length<=s.code.length+g)->∀ s,(ndsW f l s).code.length<=s.code.length+l.length*g
 | [],_,s=>by simp [ndsW]
 | x :: r,h,s=>by
   have h1:=h x (List.mem_cons_self ..) s;have h2:=ndsW_grow r (fun y hy=>h y (List.mem_cons_of_mem _ hy)) (f x s);show (ndsW f r (f x s)).code.length<=_;simp only [List.length_cons,Nat.add_mul,Nat.one_mul];omega
def Few (c:Ck):Prop:=∀ m at_ k:Int,prtB c m at_ k=true->k<=3
theorem nodeA_few {c:Ck} (hc:Few c) {x:Nd} (h:nodeA c x=true):x.args.length<=3:=by
 obtain ⟨op,n,m,at_,args⟩:=x;show args.length<=3
 by_cases e1:op=1
 . subst e1;simp [nodeA,Nd.op,Nd.args] at h;rw [h.1];simp
 by_cases e3:op=16
 . subst e3;simp [nodeA,Nd.op,Nd.args] at h;rw [h.1];simp
 by_cases e4:op=3
 . subst e4;simp [nodeA,Nd.op,Nd.args] at h;rw [h.1];simp
 by_cases e5:op=4
 . subst e5;have:=nodeA_4 h;omega
 by_cases e6:op=5
 . subst e6
   simp [nodeA,Nd.op,Nd.args,Nd.m,Nd.at_] at h;have:=hc _ _ _ h.2;omega
 have hl:=nodeA_9 h e1 e3 e4 e5 e6;unfold argsOf at hl
 split at hl
 . omega
 . split at hl
   . omega
   . split at hl<;>omega
theorem ndW_grow {c:Ck} (hc:Few c):∀ (k:Nat) (x:Nd),nodeA c x=true->ndsB c k x.args=true->∀ s,(ndW (k+1) x s).code.length<=s.code.length+grw (k+1):=by
 have key:∀ (k:Nat) (x:Nd),nodeA c x=true->(∀ y ∈ x.args,∀ s,(ndW k y s).code.length<=s.code.length+grw k)->∀ s,(ndW (k+1) x s).code.length<=s.code.length+grw (k+1):=by
  intro k x hx hN s;have hl:=nodeA_few hc hx;obtain ⟨op,n,m,at_,args⟩:=x
  have hA:∀ i s,(ndW k (argN args i) s).code.length<=s.code.length+grw k:=fun i s=>by
   by_cases hi:i<args.length
   . rw [argN_get _ _ hi];exact hN _ (List.getElem_mem hi) s
   . have:argN args i=nd0:=by simp [argN,List.getD_eq_getElem?_getD,List.getElem?_eq_none (Nat.le_of_not_lt hi)]
     rw [this]
     cases k with
     | zero=>exact Nat.le_add_right ..
     | succ k=>
       show (putW 10 0 0 (ndsW (ndW k) [] s)).code.length<=_;rw [putW_len];show s.code.length+1<=s.code.length+(3*grw k+4);omega
  have hall:=ndsW_grow (f:=ndW k) (g:=grw k) args hN s;have hm:args.length*grw k<=3*grw k:=Nat.mul_le_mul_right _ hl;have h0:=hA 0 s;have h1:=hA 1 (jmpW 12 0 (ndW k (argN args 0) s));have h2:=hA 1 (landW (ndW k (argN args 0) s).code.length (jmpW 11 0 (putW 1 1 0 (jmpW 12 0 (ndW k (argN args 0) s)))));rw [ndW_succ];unfold ndStep;simp only [grw];simp only [landW_len,jmpW_len,putW_len] at h1 h2
  repeat' split
  all_goals (simp only [putW_len,fixW_len,idxW,callW,andW,orW,landW_len,jmpW_len];omega)
 intro k
 induction k with
 | zero=>intro x h1 h2;exact key 0 x h1 (fun y hy s=>Nat.le_add_right ..)
 | succ k ih=>
   intro x h1 h2;refine key (k+1) x h1 (fun y hy=>?_);rw [show ndsB c (k+1) x.args=x.args.all (fun x=>nodeA c x&&ndsB c k x.args) from rfl,List.all_eq_true] at h2;have h4:=h2 y hy;rw [Bool.and_eq_true] at h4;exact ih y h4.1 h4.2
theorem blkW_grow {f:Ac->Wrt->Wrt} {g:Nat}:∀ (l:List Ac),(∀ y ∈ l,∀ s,(f y s).code.length<=max s.code.length 2048+g)->∀ s,(blkW f l s).code.length<=max s.code.length (2048+g)
 | [],_,s=>Nat.le_max_left ..
 | x :: r,h,s=>by
   have h1:=h x (List.mem_cons_self ..) s;have h2:=blkW_grow r (fun y hy=>h y (List.mem_cons_of_mem _ hy));show (blkW f r (if fullW s=true then s else f x s)).code.length<=_;split
   . exact h2 s
   . rename_i hf
     have:=h2 (f x s);unfold fullW at hf;simp only [decide_eq_true_eq] at hf;omega
theorem acsB_in {c:Ck} {k:Nat} {l:List Ac} (h:acsB c (k+1) l=true) {y:Ac} (hy:y ∈ l):actA c y=true/\ndsB c 6 y.args=true/\(acsB c k y.body=true\/y.body.length=0)/\(acsB c k y.other=true\/y.other.length=0):=by
 simp only [acsB,Bool.and_eq_true,List.all_eq_true] at h;obtain ⟨h1,h2,h3⟩:=h.2 y hy;refine ⟨h1,h2,?_⟩
 split at h3
 . rw [Bool.and_eq_true] at h3;exact ⟨Or.inl h3.1,Or.inl h3.2⟩
 . split at h3
   . rw [Bool.and_eq_true] at h3;exact ⟨Or.inl h3.1,Or.inr (of_decide_eq_true h3.2)⟩
   . rw [Bool.and_eq_true] at h3;exact ⟨Or.inr (of_decide_eq_true h3.1),Or.inr (of_decide_eq_true h3.2)⟩
theorem acW_grow {c:Ck} (hc:Few c):∀ (k:Nat) (l:List Ac),acsB c k l=true->∀ y ∈ l,∀ s,(acW k y s).code.length<=max s.code.length 2048+5000*k
 | 0,l,h=>by simp [acsB] at h
 | k + 1,l,h=>fun y hy s=>by
   obtain ⟨h1,h2,h3,h4⟩:=acsB_in h hy;obtain ⟨op,n,m,at_,args,body,other⟩:=y;obtain ⟨⟨o1,o7⟩,l2,l1⟩:=actA_args h1;simp only [Ac.args,Ac.body,Ac.other] at h2 h3 h4
   have hN:∀ z ∈ args,∀ s,(ndW 6 z s).code.length<=s.code.length+1456:=fun z hz s=>by
    rw [show ndsB c 6 args=args.all (fun x=>nodeA c x&&ndsB c 5 x.args) from rfl,List.all_eq_true] at h2;have h5:=h2 z hz;rw [Bool.and_eq_true] at h5;exact ndW_grow hc 5 z h5.1 h5.2 s
   have hA:∀ i,i<args.length->∀ s,(ndW 6 (argN args i) s).code.length<=s.code.length+1456:=fun i hi s=>by
    rw [argN_get _ _ hi];exact hN _ (List.getElem_mem hi) s
   have nil:∀ (q:List Ac),q.length=0->∀ s,(blkW (acW k) q s).code.length<=max s.code.length (2048+5000*k):=fun q hq s=>by
    rw [List.eq_nil_of_length_eq_zero hq];exact Nat.le_max_left ..
   have hB:∀ s,(blkW (acW k) body s).code.length<=max s.code.length (2048+5000*k):=by
    rcases h3 with h3 | h3
    . exact blkW_grow _ (acW_grow hc k _ h3)
    . exact nil _ h3
   have hO:∀ s,(blkW (acW k) other s).code.length<=max s.code.length (2048+5000*k):=by
    rcases h4 with h4 | h4
    . exact blkW_grow _ (acW_grow hc k _ h4)
    . exact nil _ h4
   rw [acW_succ];unfold acStep
   by_cases e3:op=3
   . subst e3
     have hp:args.length<=3:=by
      simp [actA,Ac.op,Ac.args,Ac.m,Ac.at_] at h1;have:=hc _ _ _ h1.2;omega
     have h5:=ndsW_grow (f:=ndW 6) (g:=1456) args hN s;have h6:args.length*1456<=3*1456:=Nat.mul_le_mul_right _ hp;simp only [show ¬ ((3:Int)=1) from by decide,show ¬ ((3:Int)=2) from by decide,if_true,if_false,putW_len,callW,fixW_len];omega
   have hl0:0<args.length:=by
    by_cases e2:op=2
    . have:=l2 e2;omega
    . have:=l1 e2 e3;omega
   have h0:=hA 0 hl0 s;have b1:=hB (jmpW 12 0 (ndW 6 (argN args 0) s));have b2:=hO (landW (ndW 6 (argN args 0) s).code.length (jmpW 11 0 (blkW (acW k) body (jmpW 12 0 (ndW 6 (argN args 0) s)))));have b3:=hB (putW 16 0 0 (jmpW 12 0 (ndW 6 (argN args 0) s)));simp only [landW_len,jmpW_len,putW_len] at b1 b2 b3
   by_cases e2:op=2
   . subst e2
     have h7:=hA 1 (by have:=l2 rfl;omega) (idxW (ndW 6 (argN args 0)) n m at_ s);simp only [show ¬ ((2:Int)=1) from by decide,if_true,if_false,putW_len];simp only [idxW,fixW_len] at h7 ⊢;omega
   repeat' split
   all_goals first
    | omega
    | (simp only [putW_len,setW,brW,whW];omega)
    | (unfold setW;split<;>simp only [putW_len,fixW_len]<;>omega)
    | (unfold brW;split<;>simp only [landW_len]<;>omega)
    | (unfold whW;simp only [landW_len,jmpW_len];omega)
theorem bodyW_grow {c:Ck} (hc:Few c) (p:Pt) (h:acsB c 6 p.body=true) (s:Wrt):(bodyW p s).code.length<=max s.code.length 32048+3:=by
 have:=blkW_grow p.body (acW_grow hc 6 p.body h) (putW 14 p.params p.locals s);simp only [putW_len] at this;simp only [bodyW,putW_len];omega
theorem wbody_any {w0 w:World} {R:Nat} {K:List (Nat × Obj)} {s:Wrt} {A:Nat->Prop} {p:Pt} {a:Option Addr} {cap:Nat} {c:Ck} (hp:acsB c 6 p.body=true) (hD:DAt w0 A a p.body.length (acsD p.body)) (h:Wri w0 w R K s) (hr:(bodyW p s).code.length<=1000000) :
 Calls Tryz.prog 79 #[.pointer (some ⟨R,0,none⟩),.agg #[.int .i64 p.params,.int .i64 p.locals,.slice a p.body.length cap]] w fun e w'=>e = .returned (.tuple #[])/\Wri w0 w' R K (bodyW p s):=by
 have HW:Hid (Wri w0 (w.alloc (.cells #[.int .i64 p.params,.int .i64 p.locals,.slice a p.body.length cap] 106)) R ((w.heap.size,.cells #[.int .i64 p.params,.int .i64 p.locals,.slice a p.body.length cap] 106) :: K) s):=h.box _;have m1:=blkW_mono (acW_mono 6) p.body (putW 14 p.params p.locals s)
 have r1:(blkW (acW 6) p.body (putW 14 p.params p.locals s)).code.length+2<=1000000:=by simp only [bodyW,putW_len] at hr;omega
 rw [putW_len] at m1;have HB:=hid (fun (K:List (Nat × Obj)) (s:Wrt) (w:World)=>wblock_any (w:=w) (K:=K) (s:=s) (cap:=cap) (wact_any (w0:=w0) (R:=R) 6 p.body hp) hD);clear h hp hD;go_enter Tryz.func79,Tryz.ntmps79;go_wp2_with fail;refine (put_any 14 p.params p.locals HW.out (by omega)).mono ?_;rintro e w1 ⟨rfl,h1⟩;have H1:=hid h1;clear h1;obtain ⟨q0,q1,q2, -⟩:=cellsOf3 H1.out.head;go_wp2_with fail;refine (HB.out _ _ _ H1.out (by omega)).mono ?_;rintro e w2 ⟨rfl,h2⟩;have H2:=hid h2;clear h2 q0 q1 q2;go_wp2_with fail;refine (put_any 1 0 0 H2.out (by omega)).mono ?_;rintro e w3 ⟨rfl,h3⟩;have H3:=hid h3;clear h3;go_wp2_with fail;refine (put_any 15 0 0 H3.out (by rw [putW_len];omega)).mono ?_;rintro e w4 ⟨rfl,h4⟩;have H4:=hid h4;clear h4;go_wp2_with fail;go_end0;exact ⟨rfl,H4.out.tail⟩
end Go.Proofs.YtndkhgakfodldaaGreatDoor

namespace Go.Proofs.YtndkhgakfodldaaGreatDoor
set_option maxRecDepth 100000
set_option maxHeartbeats 1600000
open Go.RowKit Go.Maps Go.WideMaps
set_option linter.unusedSimpArgs false
set_option linter.unusedVariables false
def numS (m at_ n:Int):Bool:=decide (n=1/\at_=512)||lieB 512 at_ n
def prtS (m at_ k:Int):Bool:=decide (0<=at_/\at_<6)&&decide (k<=3)
theorem unseenNum_any (m at_ n:Int) (w:World) (ha:(Lit.int .i64 at_).wf=true) (h1:1<=n) (h2:n<=32) :
 Calls Tryz.prog 327 #[.agg #[],.int .i64 m,.int .i64 at_,.int .i64 n] w fun e w'=>e = .returned (.bool (numS m at_ n))/\Below w.heap.size w w':=by
 by_cases t1:n=1
 . by_cases t2:at_=512
   . have HR:Hid (numS m at_ n=true):=by show _=_;unfold numS;rw [decide_eq_true ⟨t1,t2⟩];rfl
     subst t1;subst t2;clear ha h1 h2;go_enter Tryz.func327,Tryz.ntmps327;go_wp2_with fail;go_ret;exact ⟨ret_bool (by first | exact HR.out.symm | (rw [HR.out]<;>first | (simp;omega) | (simp [*];done))),al1 _ _⟩
   . have HR:Hid (numS m at_ n=lieB 512 at_ n):=by show _=_;unfold numS;rw [decide_eq_false (fun h=>t2 h.2)];rfl
     have HL:=hid (lieIn_any 512 at_ n (w.alloc (.cells #[] 133)) (by decide) (by decide) h1 h2 ha);subst t1;clear ha h1 h2;go_enter Tryz.func327,Tryz.ntmps327;go_wp2_with fail;refine HL.out.mono ?_;rintro e w1 ⟨rfl,rfl⟩;go_wp2_with fail;go_ret;exact ⟨ret_bool (by first | exact HR.out.symm | (rw [HR.out]<;>first | (simp;omega) | (simp [*];done))),al1 _ _⟩
 . have HR:Hid (numS m at_ n=lieB 512 at_ n):=by show _=_;unfold numS;rw [decide_eq_false (fun h=>t1 h.1)];rfl
   have HL:=hid (lieIn_any 512 at_ n (w.alloc (.cells #[] 133)) (by decide) (by decide) h1 h2 ha);clear ha h1 h2;go_enter Tryz.func327,Tryz.ntmps327;go_wp2_with fail;refine HL.out.mono ?_;rintro e w1 ⟨rfl,rfl⟩;go_wp2_with fail;go_ret;exact ⟨ret_bool (by first | exact HR.out.symm | (rw [HR.out]<;>first | (simp;omega) | (simp [*];done))),al1 _ _⟩
theorem unseenPart_any (m at_:Int) (k:Nat) (w:World) :
 Calls Tryz.prog 328 #[.agg #[],.int .i64 m,.int .i64 at_,.int .i64 k] w fun e w'=>e = .returned (.bool (prtS m at_ k))/\Below w.heap.size w w':=by
 by_cases t1:0<=at_
 . by_cases t2:at_<6
   . have HR:Hid (prtS m at_ k=decide ((k:Int)<=3)):=by show _=_;unfold prtS;rw [decide_eq_true ⟨t1,t2⟩];rfl
     go_enter Tryz.func328,Tryz.ntmps328;go_wp2_with fail;go_ret;exact ⟨ret_bool (by first | exact HR.out.symm | (rw [HR.out]<;>first | (simp;omega) | (simp [*];done))),al1 _ _⟩
   . have HR:Hid (prtS m at_ k=false):=by show _=_;unfold prtS;rw [decide_eq_false (fun h=>t2 h.2)];rfl
     have t2':6<=at_:=by omega
     clear t2;go_enter Tryz.func328,Tryz.ntmps328;go_wp2_with fail;go_ret;exact ⟨ret_bool (by first | exact HR.out.symm | (rw [HR.out]<;>first | (simp;omega) | (simp [*];done))),al1 _ _⟩
 . have HR:Hid (prtS m at_ k=false):=by show _=_;unfold prtS;rw [decide_eq_false (fun h=>t1 h.1)];rfl
   have t1':at_<0:=by omega
   clear t1;go_enter Tryz.func328,Tryz.ntmps328;go_wp2_with fail;go_ret;exact ⟨ret_bool (by first | exact HR.out.symm | (rw [HR.out]<;>first | (simp;omega) | (simp [*];done))),al1 _ _⟩
theorem unseen_uses (w:World) (u:Un) (lc:Int):UsAt w (ckOf u numS prtS lc) 327 328 (.agg #[]):=
 ⟨fun W _ m at_ n _ ha h1 h2=>unseenNum_any m at_ n W ha h1 h2,fun W _ m at_ k _ _ _=>unseenPart_any m at_ k W⟩
theorem holdS_any (u:Un) (x1:Option Addr) (y1:Nat) (x2:Option Addr) (y2:Nat) (x3:Option Addr) (y3:Nat) (w:World) (hU:UvAt w u x1 y1 x2 y2 x3 y3) :
 Calls Tryz.prog 77 #[.agg #[.string u.name,.slice x1 u.uses.length y1,.int .i64 u.data,.slice x2 u.parts.length y2,.slice x3 u.main.length y3],.iface 133 (.agg #[])] w fun e w'=>e = .returned (.bool (holdB u numS prtS))/\Below w.heap.size w w':=
 Hold_any u numS prtS x1 y1 x2 y2 x3 y3 133 (.agg #[]) w hU (fun hh lc W hW=>by
  have hd:=headB_data hh
  exact ckS (ckOf u numS prtS lc) u.name x1 y1 x2 y2 x3 u.main.length y3 W hd.1 hd.2 (hU.later hW).uses.bound (hU.later hW).parts (unseen_uses W u lc))
structure Ob where
 name:ByteArray
 uses:List ByteArray
 data:Int
 code:List Gi
 fixes:List Gf
 entries:List Int
 main:Int
def wr0:Wrt:=⟨[],[]⟩
def partsW (l:List Pt):Wrt:=l.foldl (fun s p=>bodyW p s) wr0
def entsW (l:List Pt):List Int:=(List.range l.length).map (fun i=>((partsW (l.take i)).code.length:Int))
def genS (u:Un):Wrt:=bodyW ⟨0,0,u.main⟩ (partsW u.parts)
def genOb (u:Un):Ob:=⟨u.name,u.uses,u.data,(genS u).code,(genS u).fixes,entsW u.parts,(partsW u.parts).code.length⟩
def genM (u:Un):Except Int Ob:=
 if (Go.Lib.containsS u.uses u.name || !holdB u numS prtS)=true then .error 1
 else if fullW (genS u)=true then .error 2
 else .ok (genOb u)
theorem partsW_take (l:List Pt) (j:Nat) (h:j<l.length):partsW (l.take (j+1))=bodyW l[j] (partsW (l.take j)):=by
 rw [List.take_succ_eq_append_getElem h];unfold partsW;rw [List.foldl_append]
 rfl
def entsTo (l:List Pt) (j:Nat):List Int:=(List.range j).map (fun i=>((partsW (l.take i)).code.length:Int))
theorem entsTo_succ (l:List Pt) (j:Nat):entsTo l (j+1)=entsTo l j++[((partsW (l.take j)).code.length:Int)]:=by
 unfold entsTo;rw [List.range_succ,List.map_append]
 rfl
theorem entsTo_len (l:List Pt) (j:Nat):(entsTo l j).length=j:=by simp [entsTo]
theorem holdB_parts {u:Un} {num prt:Int->Int->Int->Bool} (h:holdB u num prt=true):(∀ p ∈ u.parts,acsB (ckOf u num prt (p.params+p.locals)) 6 p.body=true)/\acsB (ckOf u num prt 0) 6 u.main=true/\headB u=true:=by
 unfold holdB at h;simp only [Bool.and_eq_true,List.all_eq_true] at h;exact ⟨h.2.1,h.2.2,h.1⟩
theorem ckOf_few {u:Un} (h:headB u=true) (lc:Int):Few (ckOf u numS prtS lc):=fun m at_ k hk=>by
 unfold prtB at hk
 split at hk
 . unfold hasP at hk
   rw [Bool.and_eq_true] at hk;obtain ⟨_,h2⟩:=hk;unfold headB at h;simp only [Bool.and_eq_true,List.all_eq_true] at h;simp only [ckOf] at h2
   cases hq:u.parts[at_.toNat]? with
   | none=>rw [hq] at h2;cases h2
   | some p=>
     rw [hq] at h2;have h3:=of_decide_eq_true h2;have h4:=h.2.1 p (List.mem_of_getElem? hq);unfold ptB at h4;rw [Bool.and_eq_true] at h4;have h5:=of_decide_eq_true h4.1;omega
 . rw [Bool.and_eq_true] at hk
   simp only [ckOf,prtS,Bool.and_eq_true] at hk;exact of_decide_eq_true hk.2.2
theorem partsW_le {u:Un} (h:holdB u numS prtS=true):∀ j,j<=u.parts.length->(partsW (u.parts.take j)).code.length<=32051+3*j
 | 0,_=>by simp [partsW,wr0]
 | j+1,hj=>by
   have h1:=partsW_le h j (by omega);obtain ⟨hp,_,hh⟩:=holdB_parts h;have h2:=bodyW_grow (ckOf_few hh _) u.parts[j] (hp _ (List.getElem_mem (by omega))) (partsW (u.parts.take j));rw [partsW_take _ _ (by omega)];omega
theorem headB_six {u:Un} (h:headB u=true):u.parts.length<=6:=by
 unfold headB at h;simp only [Bool.and_eq_true] at h;exact of_decide_eq_true h.2.2.2
theorem genS_le {u:Un} (h:holdB u numS prtS=true):(genS u).code.length<=33000:=by
 obtain ⟨_,hm,hh⟩:=holdB_parts h;have h1:=partsW_le h u.parts.length (Nat.le_refl _);rw [List.take_length] at h1;have h2:=headB_six hh;have h3:=bodyW_grow (ckOf_few hh 0) ⟨0,0,u.main⟩ hm (partsW u.parts);unfold genS;omega
end Go.Proofs.YtndkhgakfodldaaGreatDoor

namespace Go.Proofs.YtndkhgakfodldaaGreatDoor
set_option maxRecDepth 100000
open Go.RowKit Go.Maps Go.WideMaps
set_option linter.unusedSimpArgs false
set_option linter.unusedVariables false
def intV (l:List Int):List Value:=l.map (Value.int .i64 ·)
theorem intV_snoc (l:List Int) (x:Int):intV (l++[x])=intV l++[.int .i64 x]:=by simp [intV]
def Ent (B:Nat) (v:Value) (es:List Int) (E:List (Nat × Obj)):Prop:=
 (es=[]/\v = .slice none 0 0/\E=[])\/∃ g cap cur,v = .slice (some ⟨g,0,none⟩) es.length cap/\E=[(g,.cells cur 3)]/\B<=g/\es.length<=cap/\cap<=maxLen/\cur.size=cap*1/\cur.toList.take (es.length*1)=intV es
def Wre (w0 w:World) (R:Nat) (K:List (Nat × Obj)) (s:Wrt) (v:Value) (es:List Int):Prop:=∃ E,Ent w0.heap.size v es E/\Wri w0 w R (E++K) s/\∀ x ∈ K,v.ownBlock≠some x.1
section
variable {w0 w w':World} {R:Nat} {K:List (Nat × Obj)} {s:Wrt} {v:Value} {es:List Int}
theorem Wre.start (h:Wri w0 w R K s):Wre w0 w R K s (.slice none 0 0) []:=⟨[],Or.inl ⟨rfl,rfl,rfl⟩,h,fun x _ e=>by simp [Value.ownBlock] at e⟩
theorem Wre.own (h:Wre w0 w R K s v es):w.ownsRow w0.heap.size 3 1 v es.length (intV es):=by
 obtain ⟨E,hE,hw,_⟩:=h;refine ⟨by simp [intV],?_⟩
 rcases hE with ⟨h1,h2,_⟩ | ⟨g,cap,cur,hv,hE,hB,h3,h4,h5,h6⟩
 . exact Or.inl ⟨h2,by rw [h1];rfl⟩
 . subst hE
   exact Or.inr ⟨g,cap,cur,hv,hB,hw.head,h3,h4,h5,h6⟩
theorem Wre.form (h:Wre w0 w R K s v es):∃ a cap,v = .slice a es.length cap/\es.length<=cap/\cap<=maxLen:=ownsRow_form h.own
theorem Wre.wri (h:Wre w0 w R K s v es):Wri w0 w R K s:=by
 obtain ⟨E,_,hw,_⟩:=h;exact hw.sub (fun x hx=>List.mem_append_right _ hx)
theorem Wre.later (h:Wre w0 w R K s v es) (hb:Below w.heap.size w w'):Wre w0 w' R K s v es:=by
 obtain ⟨E,hE,hw,hx⟩:=h;exact ⟨E,hE,hw.later hb,hx⟩
theorem Wre.alloc (h:Wre w0 w R K s v es) (o:Obj):Wre w0 (w.alloc o) R K s v es:=h.later ((Below.refl _ _).alloc (Nat.le_refl _) o)
theorem Wre.box (h:Wre w0 w R K s v es) (o:Obj):Wre w0 (w.alloc o) R ((w.heap.size,o) :: K) s v es:=by
 have hown:=h.own;obtain ⟨E,hE,hw,hx⟩:=h;refine ⟨E,hE,(hw.box o).sub (fun x hx=>?_),fun x hm=>?_⟩
 . rcases List.mem_append.1 hx with h1 | h1
   . exact List.mem_cons_of_mem _ (List.mem_append_left _ h1)
   . rcases List.mem_cons.1 h1 with rfl | h1
     . exact List.mem_cons_self ..
     . exact List.mem_cons_of_mem _ (List.mem_append_right _ h1)
 . rcases List.mem_cons.1 hm with rfl | hm
   . intro e
     have:=(hown.lt _ e).2;simp only at this;omega
   . exact hx x hm
theorem Wre.tail {x:Nat × Obj} (h:Wre w0 w R (x :: K) s v es):Wre w0 w R K s v es:=by
 obtain ⟨E,hE,hw,hx⟩:=h;refine ⟨E,hE,hw.sub (fun y hy=>?_),fun y hy=>hx y (List.mem_cons_of_mem _ hy)⟩
 rcases List.mem_append.1 hy with h1 | h1
 . exact List.mem_append_left _ h1
 . exact List.mem_append_right _ (List.mem_cons_of_mem _ h1)
theorem Wre.call {P:Program} {f:FuncId} {args:Array Value} {s':Wrt} (h:Wre w0 w R K s v es) (hc:∀ K',Wri w0 w R K' s->Calls P f args w fun e w'=>e = .returned (.tuple #[])/\Wri w0 w' R K' s') :
 Calls P f args w fun e w'=>e = .returned (.tuple #[])/\Wre w0 w' R K s' v es:=by
 obtain ⟨E,hE,hw,hx⟩:=h;exact (hc _ hw).mono (fun e w' h=>⟨h.1,E,hE,h.2,hx⟩)
theorem Wre.onto {x:Int} {g cap:Nat} (h:Wre w0 w R K s v es) (ho:Onto w w' w0.heap.size 3 1 v es.length g cap (intV es++[.int .i64 x])) :
 Wre w0 w' R K s (.slice (some ⟨g,0,none⟩) (es.length+1) cap) (es++[x]):=by
 have hown:=h.own;obtain ⟨E,hE,⟨hl,cv,fv,hw⟩,hx⟩:=h
 have hv:∀ k,v.ownBlock=some k->k≠R/\cv.ownBlock≠some k/\fv.ownBlock≠some k:=fun k hk=>by
  rcases hE with ⟨_,h2,_⟩ | ⟨g',cap',cur,hv,hE,_⟩
  . rw [h2] at hk;simp [Value.ownBlock] at hk
  . subst hE
    rw [hv] at hk;simp only [Value.ownBlock,Option.some.injEq] at hk;subst hk;obtain ⟨_,h2,h3,h4⟩:=hw.kp (g',.cells cur 3) (List.mem_append_left _ (List.mem_cons_self ..));exact ⟨h2,h3,h4⟩
 have hnew:∀ k,k<w.heap.size->v.ownBlock≠some k->g≠k:=fun k hk hne e=>by
  rcases ho.at_ with h1 | h1
  . exact hne (by rw [h1,e])
  . omega
 rcases ho.own.2 with ⟨h1,_⟩ | ⟨g',cap',cur,hv',hB,hg,h3,h4,h5,h6⟩
 . cases h1
 cases hv'
 have hcv:∀ k,cv.ownBlock=some k->v.ownBlock≠some k:=fun k h1 h2=>(hv k h2).2.1 h1
 have hfv:∀ k,fv.ownBlock=some k->v.ownBlock≠some k:=fun k h1 h2=>(hv k h2).2.2 h1
 have keep:∀ k,k<w.heap.size->v.ownBlock≠some k->w'.heap[k]? = w.heap[k]?:=fun k hk hne=>
  (ho.old k _ (Array.getElem?_eq_getElem hk) hne).trans (Array.getElem?_eq_getElem hk).symm
 refine ⟨[(g,.cells cur 3)],Or.inr ⟨g,cap,cur,by rw [List.length_append];rfl,rfl,hB,by rw [List.length_append];exact h3,h4,h5,by rw [List.length_append,intV_snoc];exact h6⟩,⟨hl,cv,fv,?_⟩,fun y hy e=>?_⟩
 . exact {
    blk:=(keep R hw.ltR (fun e=>(hv R e).1 rfl)).trans hw.blk
    hR:=hw.hR
    code:=ownsRow_keep hw.code (fun k hk=>keep k (hw.code.lt k hk).2 (hcv k hk))
    fix:=ownsRow_keep hw.fix (fun k hk=>keep k (hw.fix.lt k hk).2 (hfv k hk))
    apt:=hw.apt
    nc:=hw.nc
    nf:=hw.nf
    below:=hw.below.trans ho.below
    kp :=fun y hy=>by
     rcases List.mem_append.1 hy with h7 | h7
     . rw [List.mem_singleton] at h7
       subst h7;refine ⟨hg,hnew R hw.ltR (fun e=>(hv R e).1 rfl),fun e=>?_,fun e=>?_⟩
       . exact hnew g (hw.code.lt g e).2 (hcv g e) rfl
       . exact hnew g (hw.fix.lt g e).2 (hfv g e) rfl
     . obtain ⟨k1,k2,k3,k4⟩:=hw.kp y (List.mem_append_right _ h7)
       exact ⟨ho.old _ _ k1 (hx y h7),k2,k3,k4⟩}
 . have k1:=(hw.kp y (List.mem_append_right _ hy)).1
   simp only [Value.ownBlock,Option.some.injEq] at e;exact hnew y.1 (lt_of_heap k1) (hx y hy) e
end
end Go.Proofs.YtndkhgakfodldaaGreatDoor

namespace Go.Proofs.YtndkhgakfodldaaGreatDoor
set_option maxRecDepth 100000
set_option maxHeartbeats 3200000
open Go.RowKit Go.Maps Go.WideMaps
set_option linter.unusedSimpArgs false
set_option linter.unusedVariables false
theorem containsU_any (l:List ByteArray) (x:ByteArray) (a:Option Addr) (cap:Nat) (w:World) (h:DAt w Tt a l.length (strsD l)) :
 Calls Tryz.prog 76 #[.slice a l.length cap,.string x] w fun e w'=>e = .returned (.bool (Go.Lib.containsS l x))/\w'=w:=by
 have hb:=h.bound
 rcases (strs_at h).1 with rfl | ⟨b,off,rfl,_,hc⟩
 . have:Go.Lib.containsS [] x=false:=by
    cases hq:Go.Lib.containsS [] x with
    | false=>rfl
    | true=>have:=(Go.Lib.containsS_iff [] x).1 hq;simp at this
   rw [this];exact Tryz.slices_Contains_string_empty a cap x w
 . have:=Tryz.slices_Contains_string b off l.length cap l x w (Nat.le_refl _) (by omega) (fun j hj=>by rw [hc j hj];simp [List.getD_eq_getElem?_getD,hj])
   rw [List.take_length] at this;exact this
def GenEnd (w:World) (u:Un) (e:Ending) (w':World):Prop:=
 match genM u with
 | .error c=>e = .returned (.tuple #[.agg #[.string ⟨#[]⟩,.slice none 0 0,.int .i64 0,.slice none 0 0,.slice none 0 0,.slice none 0 0,.int .i64 0],.int .i64 c])
 | .ok o=>∃ ua uc ca cc fa fc ea ec,e = .returned (.tuple #[.agg #[.string o.name,.slice ua o.uses.length uc,.int .i64 o.data,.slice ca o.code.length cc,.slice fa o.fixes.length fc,.slice ea o.entries.length ec,.int .i64 o.main],.int .i64 0])/\
  w'.ownsRow w.heap.size 9 1 (.slice ua o.uses.length uc) o.uses.length (strV o.uses)/\w'.ownsRow w.heap.size 69 3 (.slice ca o.code.length cc) o.code.length (gisV o.code)/\
  w'.ownsRow w.heap.size 67 3 (.slice fa o.fixes.length fc) o.fixes.length (gfsV o.fixes)/\w'.ownsRow w.heap.size 3 1 (.slice ea o.entries.length ec) o.entries.length (intV o.entries)
theorem below7 {B:Nat} {w w':World} {b:Nat} (h:Below B w w') (hb:B<=b) (v0 v1 v2 v3 v4 v5 v6:Value) :
 Below B w (((((((w'.setCell ⟨b,0,none⟩ v0).setCell ⟨b,1,none⟩ v1).setCell ⟨b,2,none⟩ v2).setCell ⟨b,3,none⟩ v3).setCell ⟨b,4,none⟩ v4).setCell ⟨b,5,none⟩ v5).setCell ⟨b,6,none⟩ v6):=
 (((((((h.setCell (p:=⟨b,0,none⟩) hb v0).setCell (p:=⟨b,1,none⟩) hb v1).setCell (p:=⟨b,2,none⟩) hb v2).setCell (p:=⟨b,3,none⟩) hb v3).setCell (p:=⟨b,4,none⟩) hb v4).setCell (p:=⟨b,5,none⟩) hb v5).setCell (p:=⟨b,6,none⟩) hb v6)
theorem Gen_err1 (u:Un) (x1:Option Addr) (y1:Nat) (x2:Option Addr) (y2:Nat) (x3:Option Addr) (y3:Nat) (w:World) (hU:UvAt w u x1 y1 x2 y2 x3 y3) (hc:(Go.Lib.containsS u.uses u.name || !holdB u numS prtS)=true) :
 Calls Tryz.prog 31 #[.agg #[.string u.name,.slice x1 u.uses.length y1,.int .i64 u.data,.slice x2 u.parts.length y2,.slice x3 u.main.length y3]] w fun e w'=>GenEnd w u e w'/\Below w.heap.size w w':=by
 have HG:Hid (genM u = .error 1):=if_pos hc;have HB2:Hid (Below w.heap.size w ((w.alloc (.cells #[.string u.name,.slice x1 u.uses.length y1,.int .i64 u.data,.slice x2 u.parts.length y2,.slice x3 u.main.length y3] 42)).alloc (.cells #[.string ⟨#[]⟩,.slice none 0 0,.int .i64 0,.slice none 0 0,.slice none 0 0,.slice none 0 0,.int .i64 0] 62))):=((Below.refl _ _).alloc (Nat.le_refl _) _).alloc (by simp) _;have HC:=hid (containsU_any u.uses u.name x1 y1 _ (hU.later HB2.out).uses);have HH:=hid (holdS_any u x1 y1 x2 y2 x3 y3 _ (hU.later HB2.out));have hb1:=hU.uses.bound
 cases hq:Go.Lib.containsS u.uses u.name with
 | true=>
   rw [hq] at HC;clear hc hU HH hq;go_enter Tryz.func31,Tryz.ntmps31;go_wp2_with fail;refine HC.out.mono ?_;rintro e w' ⟨rfl,rfl⟩;go_wp2_with fail;refine bodyPost_ret (v:=.tuple #[.agg #[.string ⟨#[]⟩,.slice none 0 0,.int .i64 0,.slice none 0 0,.slice none 0 0,.slice none 0 0,.int .i64 0],.int .i64 1]) (by simp [results,Tryz.results31,go_sem]) rfl ⟨by unfold GenEnd;rw [HG.out],?_⟩;exact HB2.out
 | false=>
   rw [hq] at HC hc
   have hh:holdB u numS prtS=false:=by simpa using hc
   rw [hh] at HH;clear hc hU hq hh;go_enter Tryz.func31,Tryz.ntmps31;go_wp2_with fail;refine HC.out.mono ?_;rintro e w' ⟨rfl,rfl⟩;go_wp2_with fail;refine HH.out.mono ?_;rintro e w3 ⟨rfl,hb3⟩;have HB3:=hid (thenB HB2.out hb3)
   have hk:w3.heap[w.heap.size+1]? = some (.cells #[.string ⟨#[]⟩,.slice none 0 0,.int .i64 0,.slice none 0 0,.slice none 0 0,.slice none 0 0,.int .i64 0] 62):=by
    have h1:=heap_newP (w.alloc (.cells #[.string u.name,.slice x1 u.uses.length y1,.int .i64 u.data,.slice x2 u.parts.length y2,.slice x3 u.main.length y3] 42)) (.cells #[.string ⟨#[]⟩,.slice none 0 0,.int .i64 0,.slice none 0 0,.slice none 0 0,.slice none 0 0,.int .i64 0] 62);rw [World.size_alloc] at h1;exact (hb3.block (w.heap.size+1) (by simp)).trans h1
   obtain ⟨q0,q1,q2,q3,q4,q5,q6,qz⟩:=cells7 hk;have hlt:=lt_of_heap hk
   have hf:∀ j,w3.frozen? ⟨w.heap.size+1,j,none⟩=false:=fun j=>Lib.frozen_of_heap hk j
   clear hb3 hk;go_wp2_with fail;refine bodyPost_ret (v:=.tuple #[.agg #[.string ⟨#[]⟩,.slice none 0 0,.int .i64 0,.slice none 0 0,.slice none 0 0,.slice none 0 0,.int .i64 0],.int .i64 1]) (by simp [results,Tryz.results31,go_sem,q0,q1,q2,q3,q4,q5,q6,hlt]) rfl ⟨by unfold GenEnd;rw [HG.out],?_⟩;exact below7 HB3.out (by omega) _ _ _ _ _ _ _
end Go.Proofs.YtndkhgakfodldaaGreatDoor
