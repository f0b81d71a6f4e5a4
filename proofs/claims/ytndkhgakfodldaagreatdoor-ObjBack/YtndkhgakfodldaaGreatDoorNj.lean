/-
  Package gen: a statement.
-/
import Derived.Test.YtndkhgakfodldaaGreatDoorNg
namespace Go.Proofs.YtndkhgakfodldaaGreatDoor
set_option maxRecDepth 100000
set_option maxHeartbeats 1600000
open Go.RowKit Go.Maps Go.WideMaps
set_option linter.unusedSimpArgs false
set_option linter.unusedVariables false
theorem wact1 {w0 w:World} {R:Nat} {K:List (Nat × Obj)} {n m at_:Int} {args:List Nd} {body other:List Ac} {a1:Option Addr} {k1:Nat} {a2:Option Addr} {k2:Nat} {a3:Option Addr} {k3:Nat} {s':Wrt} (HC:Hid (Calls Tryz.prog 214 #[.pointer (some ⟨R,0,none⟩),.agg #[.int .i64 1,.int .i64 n,.int .i64 m,.int .i64 at_,.slice a1 args.length k1,.slice a2 body.length k2,.slice a3 other.length k3]] (w.alloc (.cells #[.int .i64 1,.int .i64 n,.int .i64 m,.int .i64 at_,.slice a1 args.length k1,.slice a2 body.length k2,.slice a3 other.length k3] 109)) fun e w'=>e = .returned (.tuple #[])/\Wri w0 w' R ((w.heap.size,(.cells #[.int .i64 1,.int .i64 n,.int .i64 m,.int .i64 at_,.slice a1 args.length k1,.slice a2 body.length k2,.slice a3 other.length k3] 109)) :: K) s')) :
 Calls Tryz.prog 172 #[.pointer (some ⟨R,0,none⟩),.agg #[.int .i64 1,.int .i64 n,.int .i64 m,.int .i64 at_,.slice a1 args.length k1,.slice a2 body.length k2,.slice a3 other.length k3]] w fun e w'=>e = .returned (.tuple #[])/\Wri w0 w' R K s':=by
 go_enter Tryz.func172,Tryz.ntmps172;go_wp2_with fail;refine (HC.out).mono ?_;rintro e w1 ⟨rfl,h1⟩;have H1:=hid h1;clear h1;go_wp2_with fail;go_end0;exact ⟨rfl,H1.out.tail⟩
theorem wact4 {w0 w:World} {R:Nat} {K:List (Nat × Obj)} {n m at_:Int} {args:List Nd} {body other:List Ac} {a1:Option Addr} {k1:Nat} {a2:Option Addr} {k2:Nat} {a3:Option Addr} {k3:Nat} {s':Wrt} (HC:Hid (Calls Tryz.prog 218 #[.pointer (some ⟨R,0,none⟩),.agg #[.int .i64 4,.int .i64 n,.int .i64 m,.int .i64 at_,.slice a1 args.length k1,.slice a2 body.length k2,.slice a3 other.length k3]] (w.alloc (.cells #[.int .i64 4,.int .i64 n,.int .i64 m,.int .i64 at_,.slice a1 args.length k1,.slice a2 body.length k2,.slice a3 other.length k3] 109)) fun e w'=>e = .returned (.tuple #[])/\Wri w0 w' R ((w.heap.size,(.cells #[.int .i64 4,.int .i64 n,.int .i64 m,.int .i64 at_,.slice a1 args.length k1,.slice a2 body.length k2,.slice a3 other.length k3] 109)) :: K) s')) :
 Calls Tryz.prog 172 #[.pointer (some ⟨R,0,none⟩),.agg #[.int .i64 4,.int .i64 n,.int .i64 m,.int .i64 at_,.slice a1 args.length k1,.slice a2 body.length k2,.slice a3 other.length k3]] w fun e w'=>e = .returned (.tuple #[])/\Wri w0 w' R K s':=by
 go_enter Tryz.func172,Tryz.ntmps172;go_wp2_with fail;refine (HC.out).mono ?_;rintro e w1 ⟨rfl,h1⟩;have H1:=hid h1;clear h1;go_wp2_with fail;go_end0;exact ⟨rfl,H1.out.tail⟩
theorem wact5 {w0 w:World} {R:Nat} {K:List (Nat × Obj)} {n m at_:Int} {args:List Nd} {body other:List Ac} {a1:Option Addr} {k1:Nat} {a2:Option Addr} {k2:Nat} {a3:Option Addr} {k3:Nat} {s':Wrt} (HC:Hid (Calls Tryz.prog 219 #[.pointer (some ⟨R,0,none⟩),.agg #[.int .i64 5,.int .i64 n,.int .i64 m,.int .i64 at_,.slice a1 args.length k1,.slice a2 body.length k2,.slice a3 other.length k3]] (w.alloc (.cells #[.int .i64 5,.int .i64 n,.int .i64 m,.int .i64 at_,.slice a1 args.length k1,.slice a2 body.length k2,.slice a3 other.length k3] 109)) fun e w'=>e = .returned (.tuple #[])/\Wri w0 w' R ((w.heap.size,(.cells #[.int .i64 5,.int .i64 n,.int .i64 m,.int .i64 at_,.slice a1 args.length k1,.slice a2 body.length k2,.slice a3 other.length k3] 109)) :: K) s')) :
 Calls Tryz.prog 172 #[.pointer (some ⟨R,0,none⟩),.agg #[.int .i64 5,.int .i64 n,.int .i64 m,.int .i64 at_,.slice a1 args.length k1,.slice a2 body.length k2,.slice a3 other.length k3]] w fun e w'=>e = .returned (.tuple #[])/\Wri w0 w' R K s':=by
 go_enter Tryz.func172,Tryz.ntmps172;go_wp2_with fail;refine (HC.out).mono ?_;rintro e w1 ⟨rfl,h1⟩;have H1:=hid h1;clear h1;go_wp2_with fail;go_end0;exact ⟨rfl,H1.out.tail⟩
theorem wact6 {w0 w:World} {R k:Nat} {K:List (Nat × Obj)} {s:Wrt} {A:Nat->Prop} {n m at_:Int} {args:List Nd} {body other:List Ac} {a1:Option Addr} {k1:Nat} {a2:Option Addr} {k2:Nat} {a3:Option Addr} {k3:Nat} (hN:∀ y ∈ args,NdC w0 R 6 y) (hD:DAt w0 A a1 args.length (ndsD args)) (h:Wri w0 w R K s) (hl:args.length=1) (hr:(putW 15 0 0 (ndW 6 (argN args 0) s)).code.length<=1000000) :
 Calls Tryz.prog 172 #[.pointer (some ⟨R,0,none⟩),.agg #[.int .i64 6,.int .i64 n,.int .i64 m,.int .i64 at_,.slice a1 args.length k1,.slice a2 body.length k2,.slice a3 other.length k3]] w fun e w'=>e = .returned (.tuple #[])/\Wri w0 w' R K (putW 15 0 0 (ndW 6 (argN args 0) s)):=by
 have HW:Hid (Wri w0 (w.alloc (.cells #[.int .i64 6,.int .i64 n,.int .i64 m,.int .i64 at_,.slice a1 args.length k1,.slice a2 body.length k2,.slice a3 other.length k3] 109)) R ((w.heap.size,(.cells #[.int .i64 6,.int .i64 n,.int .i64 m,.int .i64 at_,.slice a1 args.length k1,.slice a2 body.length k2,.slice a3 other.length k3] 109)) :: K) s):=h.box (.cells #[.int .i64 6,.int .i64 n,.int .i64 m,.int .i64 at_,.slice a1 args.length k1,.slice a2 body.length k2,.slice a3 other.length k3] 109)
 have hr0:(ndW 6 (argN args 0) s).code.length<=1000000:=by simp only [putW_len] at hr;omega
 obtain ⟨b,off,aa,ca,rfl,hA,hc⟩:=arg_at hD 0 (by omega);simp only [Nat.zero_mul,Nat.add_zero] at hc;have hy:=arg_mem hN 0 (by omega);generalize argN args 0=y at *;obtain ⟨z0,z1,z2,z3,z4⟩:=hc _ h.below
 have hb:b<w.heap.size:=by
  rcases Nat.lt_or_ge b w.heap.size with h' | h'
  . exact h'
  . simp [World.cell?,Array.getElem?_eq_none h'] at z0
 have hl0:0<args.length:=by omega
 have HC:=hid (hy A aa ca _ _ _ hA HW.out hr0);clear h hN hD hA hy hc hl;go_enter Tryz.func172,Tryz.ntmps172;go_wp2_with fail;refine (HC.out).mono ?_;rintro e w1 ⟨rfl,h1⟩;have H1:=hid h1;clear h1;clear z0 z1 z2 z3 z4;go_wp2_with fail;refine (put_any 15 0 0 H1.out hr0).mono ?_;rintro e w2 ⟨rfl,h2⟩;have H2:=hid h2;clear h2;go_wp2_with fail;go_end0;exact ⟨rfl,H2.out.tail⟩
theorem wact7 {w0 w:World} {R k:Nat} {K:List (Nat × Obj)} {s:Wrt} {A:Nat->Prop} {n m at_:Int} {args:List Nd} {body other:List Ac} {a1:Option Addr} {k1:Nat} {a2:Option Addr} {k2:Nat} {a3:Option Addr} {k3:Nat} (hN:∀ y ∈ args,NdC w0 R 6 y) (hD:DAt w0 A a1 args.length (ndsD args)) (h:Wri w0 w R K s) (hl:args.length=1) (hr:(putW 19 0 0 (ndW 6 (argN args 0) s)).code.length<=1000000) :
 Calls Tryz.prog 172 #[.pointer (some ⟨R,0,none⟩),.agg #[.int .i64 7,.int .i64 n,.int .i64 m,.int .i64 at_,.slice a1 args.length k1,.slice a2 body.length k2,.slice a3 other.length k3]] w fun e w'=>e = .returned (.tuple #[])/\Wri w0 w' R K (putW 19 0 0 (ndW 6 (argN args 0) s)):=by
 have HW:Hid (Wri w0 (w.alloc (.cells #[.int .i64 7,.int .i64 n,.int .i64 m,.int .i64 at_,.slice a1 args.length k1,.slice a2 body.length k2,.slice a3 other.length k3] 109)) R ((w.heap.size,(.cells #[.int .i64 7,.int .i64 n,.int .i64 m,.int .i64 at_,.slice a1 args.length k1,.slice a2 body.length k2,.slice a3 other.length k3] 109)) :: K) s):=h.box (.cells #[.int .i64 7,.int .i64 n,.int .i64 m,.int .i64 at_,.slice a1 args.length k1,.slice a2 body.length k2,.slice a3 other.length k3] 109)
 have hr0:(ndW 6 (argN args 0) s).code.length<=1000000:=by simp only [putW_len] at hr;omega
 obtain ⟨b,off,aa,ca,rfl,hA,hc⟩:=arg_at hD 0 (by omega);simp only [Nat.zero_mul,Nat.add_zero] at hc;have hy:=arg_mem hN 0 (by omega);generalize argN args 0=y at *;obtain ⟨z0,z1,z2,z3,z4⟩:=hc _ h.below
 have hb:b<w.heap.size:=by
  rcases Nat.lt_or_ge b w.heap.size with h' | h'
  . exact h'
  . simp [World.cell?,Array.getElem?_eq_none h'] at z0
 have hl0:0<args.length:=by omega
 have HC:=hid (hy A aa ca _ _ _ hA HW.out hr0);clear h hN hD hA hy hc hl;go_enter Tryz.func172,Tryz.ntmps172;go_wp2_with fail;refine (HC.out).mono ?_;rintro e w1 ⟨rfl,h1⟩;have H1:=hid h1;clear h1;clear z0 z1 z2 z3 z4;go_wp2_with fail;refine (put_any 19 0 0 H1.out hr0).mono ?_;rintro e w2 ⟨rfl,h2⟩;have H2:=hid h2;clear h2;go_wp2_with fail;go_end0;exact ⟨rfl,H2.out.tail⟩
theorem wact3 {w0 w:World} {R k:Nat} {K:List (Nat × Obj)} {s:Wrt} {A:Nat->Prop} {n m at_:Int} {args:List Nd} {body other:List Ac} {a1:Option Addr} {k1:Nat} {a2:Option Addr} {k2:Nat} {a3:Option Addr} {k3:Nat} (hN:∀ y ∈ args,NdC w0 R 6 y) (hD:DAt w0 A a1 args.length (ndsD args)) (h:Wri w0 w R K s) (hr:(putW 17 0 0 (callW (ndsW (ndW 6) args) m at_ s)).code.length<=1000000) :
 Calls Tryz.prog 172 #[.pointer (some ⟨R,0,none⟩),.agg #[.int .i64 3,.int .i64 n,.int .i64 m,.int .i64 at_,.slice a1 args.length k1,.slice a2 body.length k2,.slice a3 other.length k3]] w fun e w'=>e = .returned (.tuple #[])/\Wri w0 w' R K (putW 17 0 0 (callW (ndsW (ndW 6) args) m at_ s)):=by
 have HW:Hid (Wri w0 (w.alloc (.cells #[.int .i64 3,.int .i64 n,.int .i64 m,.int .i64 at_,.slice a1 args.length k1,.slice a2 body.length k2,.slice a3 other.length k3] 109)) R ((w.heap.size,(.cells #[.int .i64 3,.int .i64 n,.int .i64 m,.int .i64 at_,.slice a1 args.length k1,.slice a2 body.length k2,.slice a3 other.length k3] 109)) :: K) s):=h.box (.cells #[.int .i64 3,.int .i64 n,.int .i64 m,.int .i64 at_,.slice a1 args.length k1,.slice a2 body.length k2,.slice a3 other.length k3] 109)
 have hr0:(ndsW (ndW 6) args s).code.length+1<=1000000:=by simp only [putW_len,callW,fixW_len] at hr;omega
 have HC:=hid (wcall_any (cap:=k1) m at_ hN hD HW.out (by omega));clear h hN hD;go_enter Tryz.func172,Tryz.ntmps172;go_wp2_with fail;refine (HC.out).mono ?_;rintro e w1 ⟨rfl,h1⟩;have H1:=hid h1;clear h1;go_wp2_with fail;refine (put_any 17 0 0 H1.out (by simp only [callW,fixW_len];omega)).mono ?_;rintro e w2 ⟨rfl,h2⟩;have H2:=hid h2;clear h2;go_wp2_with fail;go_end0;exact ⟨rfl,H2.out.tail⟩
theorem wact2 {w0 w:World} {R k:Nat} {K:List (Nat × Obj)} {s:Wrt} {A:Nat->Prop} {n m at_:Int} {args:List Nd} {body other:List Ac} {a1:Option Addr} {k1:Nat} {a2:Option Addr} {k2:Nat} {a3:Option Addr} {k3:Nat} (hN:∀ y ∈ args,NdC w0 R 6 y) (hD:DAt w0 A a1 args.length (ndsD args)) (h:Wri w0 w R K s) (hl:args.length=2) (hr:(putW 8 0 0 (ndW 6 (argN args 1) (idxW (ndW 6 (argN args 0)) n m at_ s))).code.length<=1000000) :
 Calls Tryz.prog 172 #[.pointer (some ⟨R,0,none⟩),.agg #[.int .i64 2,.int .i64 n,.int .i64 m,.int .i64 at_,.slice a1 args.length k1,.slice a2 body.length k2,.slice a3 other.length k3]] w fun e w'=>e = .returned (.tuple #[])/\Wri w0 w' R K (putW 8 0 0 (ndW 6 (argN args 1) (idxW (ndW 6 (argN args 0)) n m at_ s))):=by
 have HW:Hid (Wri w0 (w.alloc (.cells #[.int .i64 2,.int .i64 n,.int .i64 m,.int .i64 at_,.slice a1 args.length k1,.slice a2 body.length k2,.slice a3 other.length k3] 109)) R ((w.heap.size,(.cells #[.int .i64 2,.int .i64 n,.int .i64 m,.int .i64 at_,.slice a1 args.length k1,.slice a2 body.length k2,.slice a3 other.length k3] 109)) :: K) s):=h.box (.cells #[.int .i64 2,.int .i64 n,.int .i64 m,.int .i64 at_,.slice a1 args.length k1,.slice a2 body.length k2,.slice a3 other.length k3] 109);have m1:=ndW_mono 6 (argN args 1) (idxW (ndW 6 (argN args 0)) n m at_ s)
 have r1:(ndW 6 (argN args 1) (idxW (ndW 6 (argN args 0)) n m at_ s)).code.length<=1000000:=by simp only [putW_len] at hr;omega
 have r0:(ndW 6 (argN args 0) s).code.length<=1000000:=by simp only [idxW,fixW_len] at m1 r1;omega
 obtain ⟨b,off,aa,ca,rfl,hA,hc⟩:=arg_at hD 0 (by omega);obtain ⟨b',off',ab,cb,hbb,hB,hd⟩:=arg_at hD 1 (by omega);cases hbb;simp only [Nat.zero_mul,Nat.add_zero] at hc;simp only [Nat.one_mul] at hd;have hy:=arg_mem hN 0 (by omega);have hz:=arg_mem hN 1 (by omega);generalize argN args 0=y at *;generalize argN args 1=z at *;have HC:=hid (windex_any (cp:=ca) n m at_ hy hA HW.out.drew r0);have HZ:=hid (fun (W:World) (h:Wri w0 W R ((w.heap.size,(.cells #[.int .i64 2,.int .i64 n,.int .i64 m,.int .i64 at_,.slice (some ⟨b,off,none⟩) args.length k1,.slice a2 body.length k2,.slice a3 other.length k3] 109)) :: K) (idxW (ndW 6 y) n m at_ s))=>hz A ab cb _ _ W hB h r1)
 have HS:Hid (∀ W s',Wri w0 W R ((w.heap.size,(.cells #[.int .i64 2,.int .i64 n,.int .i64 m,.int .i64 at_,.slice (some ⟨b,off,none⟩) args.length k1,.slice a2 body.length k2,.slice a3 other.length k3] 109)) :: K) s'->W.cell? ⟨w.heap.size,1,none⟩=some (.int .i64 n)/\W.cell? ⟨w.heap.size,2,none⟩=some (.int .i64 m)/\W.cell? ⟨w.heap.size,3,none⟩=some (.int .i64 at_)/\W.cell? ⟨w.heap.size,4,none⟩=some (.slice (some ⟨b,off,none⟩) args.length k1)/\W.cell? ⟨b,off,none⟩=some (.int .i64 y.op)/\W.cell? ⟨b,off+1,none⟩=some (.int .i64 y.n)/\W.cell? ⟨b,off+2,none⟩=some (.int .i64 y.m)/\W.cell? ⟨b,off+3,none⟩=some (.int .i64 y.at_)/\W.cell? ⟨b,off+4,none⟩=some (.slice aa y.args.length ca)):=fun W s' hW=>by
  obtain ⟨q0,q1,q2,q3,q4,q5,q6, -⟩:=cells7 hW.head;obtain ⟨z0,z1,z2,z3,z4⟩:=hc W hW.below;exact ⟨q1,q2,q3,q4,z0,z1,z2,z3,z4⟩
 have HS2:Hid (∀ W s',Wri w0 W R ((w.heap.size,(.cells #[.int .i64 2,.int .i64 n,.int .i64 m,.int .i64 at_,.slice (some ⟨b,off,none⟩) args.length k1,.slice a2 body.length k2,.slice a3 other.length k3] 109)) :: K) s'->W.cell? ⟨w.heap.size,4,none⟩=some (.slice (some ⟨b,off,none⟩) args.length k1)/\W.cell? ⟨b,off+5,none⟩=some (.int .i64 z.op)/\W.cell? ⟨b,off+5+1,none⟩=some (.int .i64 z.n)/\W.cell? ⟨b,off+5+2,none⟩=some (.int .i64 z.m)/\W.cell? ⟨b,off+5+3,none⟩=some (.int .i64 z.at_)/\W.cell? ⟨b,off+5+4,none⟩=some (.slice ab z.args.length cb)):=fun W s' hW=>by
  obtain ⟨q0,q1,q2,q3,q4,q5,q6, -⟩:=cells7 hW.head;obtain ⟨z0,z1,z2,z3,z4⟩:=hd W hW.below;exact ⟨q4,z0,z1,z2,z3,z4⟩
 have HD:=hid HW.out.drew
 have hl0:1<args.length:=by omega
 clear h hN hD hA hB hy hz hc hd hl;go_enter Tryz.func172,Tryz.ntmps172;go_upto_region 5 with fail
 go_region_held (fun W=>W.cell? ⟨w.heap.size,1,none⟩=some (.int .i64 n)/\W.cell? ⟨w.heap.size,2,none⟩=some (.int .i64 m)/\W.cell? ⟨w.heap.size,3,none⟩=some (.int .i64 at_)/\W.cell? ⟨w.heap.size,4,none⟩=some (.slice (some ⟨b,off,none⟩) args.length k1)/\W.cell? ⟨b,off,none⟩=some (.int .i64 y.op)/\W.cell? ⟨b,off+1,none⟩=some (.int .i64 y.n)/\W.cell? ⟨b,off+2,none⟩=some (.int .i64 y.m)/\W.cell? ⟨b,off+3,none⟩=some (.int .i64 y.at_)/\W.cell? ⟨b,off+4,none⟩=some (.slice aa y.args.length ca)) (first | with_reducible exact HS.out _ _ HW.out | with_reducible exact HS.out _ _ HD.out | with_reducible exact HS.out _ _ H1.out)
  (first
    | (go_at_call 215;refine HC.out.mono ?_;rintro e w1 ⟨rfl,h1⟩;have H1:=hid h1;clear h1))
 all_goals
  obtain ⟨q4,z0,z1,z2,z3,z4⟩:=HS2.out _ _ H1.out;go_wp2_with fail;refine (HZ.out _ H1.out).mono ?_;rintro e w2 ⟨rfl,h2⟩;have H2:=hid h2;clear h2 q4 z0 z1 z2 z3 z4;go_wp2_with fail;refine (put_any 8 0 0 H2.out r1).mono ?_;rintro e w3 ⟨rfl,h3⟩;have H3:=hid h3;clear h3;go_wp2_with fail;go_end0;exact ⟨rfl,H3.out.tail⟩
def acStep (f:Ac->Wrt->Wrt) (op n m at_:Int) (args:List Nd) (body other:List Ac) (s:Wrt):Wrt:=
 if op=1 then setW (ndW 6 (argN args 0)) m at_ s
 else if op=2 then putW 8 0 0 (ndW 6 (argN args 1) (idxW (ndW 6 (argN args 0)) n m at_ s))
 else if op=3 then putW 17 0 0 (callW (ndsW (ndW 6) args) m at_ s)
 else if op=4 then brW (ndW 6 (argN args 0)) (blkW f body) (blkW f other) other.isEmpty s
 else if op=5 then whW (ndW 6 (argN args 0)) (blkW f body) s
 else if op=6 then putW 15 0 0 (ndW 6 (argN args 0) s)
 else if op=7 then putW 19 0 0 (ndW 6 (argN args 0) s)
 else s
theorem acW_succ (k:Nat) (op n m at_:Int) (args:List Nd) (body other:List Ac) (s:Wrt):acW (k+1) ⟨op,n,m,at_,args,body,other⟩ s=acStep (acW k) op n m at_ args body other s:=rfl
theorem actA_args {c:Ck} {op n m at_:Int} {args:List Nd} {body other:List Ac} (h:actA c ⟨op,n,m,at_,args,body,other⟩=true):(1<=op/\op<=7)/\(op=2->args.length=2)/\(op≠2->op≠3->args.length=1):=by
 unfold actA at h
 by_cases e1:op=1
 . subst e1
   simp [Ac.op,Ac.args] at h;exact ⟨by decide,fun h=>absurd h (by decide),fun _ _=>of_decide_eq_true h.1⟩
 by_cases e2:op=2
 . subst e2
   simp [Ac.op,Ac.args] at h;exact ⟨by decide,fun _=>of_decide_eq_true h.1,fun h=>absurd rfl h⟩
 by_cases e3:op=3
 . subst e3
   exact ⟨by decide,fun h=>absurd h (by decide),fun _ h=>absurd rfl h⟩
 by_cases e4:4<=op/\op<=7
 . simp [Ac.op,Ac.args,e1,e2,e3,e4] at h
   exact ⟨by omega,fun h=>absurd h e2,fun _ _=>of_decide_eq_true h.1⟩
 . simp [Ac.op,Ac.args,e1,e2,e3,e4] at h
theorem wact_of {w0:World} {R k:Nat} {c:Ck} {x:Ac} (hx:actA c x=true) (hN:∀ y ∈ x.args,NdC w0 R 6 y) (hB:∀ y ∈ x.body,AcC w0 R k y) (hO:∀ y ∈ x.other,AcC w0 R k y):AcC w0 R (k+1) x:=by
 obtain ⟨op,n,m,at_,args,body,other⟩:=x;intro A a1 k1 a2 k2 a3 k3 K s w hD dB dO h hr;obtain ⟨⟨o1,o7⟩,l2,l1⟩:=actA_args hx;rw [acW_succ] at hr ⊢;unfold acStep at hr ⊢;simp only [Ac.op,Ac.n,Ac.m,Ac.at_,Ac.args,Ac.body,Ac.other] at hD dB dO hN hB hO ⊢
 by_cases e1:op=1
 . rw [if_pos e1] at hr ⊢
   subst e1;unfold setW at hr ⊢;refine wact1 ?_
   by_cases hm:m = -1
   . rw [if_pos hm] at hr ⊢;exact wset0 (k:=0) hN hD (h.box _) (l1 (by decide) (by decide)) hm hr
   . rw [if_neg hm] at hr ⊢;exact wset1 (k:=0) hN hD (h.box _) (l1 (by decide) (by decide)) hm hr
 rw [if_neg e1] at hr ⊢
 by_cases e2:op=2
 . rw [if_pos e2] at hr ⊢
   subst e2;exact wact2 (k:=0) hN hD h (l2 rfl) hr
 rw [if_neg e2] at hr ⊢
 by_cases e3:op=3
 . rw [if_pos e3] at hr ⊢
   subst e3;exact wact3 (k:=0) hN hD h hr
 rw [if_neg e3] at hr ⊢;have hl:=l1 e2 e3
 by_cases e4:op=4
 . rw [if_pos e4] at hr ⊢
   subst e4;refine wact4 ?_;unfold brW at hr ⊢
   cases other with
   | nil=>exact wbr0 (other:=[]) hN hD (h.box _) hl hB dB hr
   | cons o r=>exact wbr1 hN hD (h.box _) hl hB dB hO dO (by simp) hr
 rw [if_neg e4] at hr ⊢
 by_cases e5:op=5
 . rw [if_pos e5] at hr ⊢
   subst e5;exact wact5 (wwh hN hD (h.box _) hl hB dB hr)
 rw [if_neg e5] at hr ⊢
 by_cases e6:op=6
 . rw [if_pos e6] at hr ⊢
   subst e6;exact wact6 (k:=0) hN hD h hl hr
 rw [if_neg e6] at hr ⊢
 by_cases e7:op=7
 . rw [if_pos e7] at hr ⊢
   subst e7;exact wact7 (k:=0) hN hD h hl hr
 . omega
theorem wact_any {w0:World} {R:Nat} {c:Ck}:∀ (k:Nat) (l:List Ac),acsB c k l=true->∀ y ∈ l,AcC w0 R k y
 | 0,l,h=>by simp [acsB] at h
 | k + 1,l,h=>fun y hy=>by
   simp only [acsB,Bool.and_eq_true,List.all_eq_true] at h;obtain ⟨h1,h2,h3⟩:=h.2 y hy
   have hN:∀ z ∈ y.args,NdC w0 R 6 z:=fun z hz=>by
    rw [show ndsB c 6 y.args=y.args.all (fun x=>nodeA c x&&ndsB c 5 x.args) from rfl,List.all_eq_true] at h2;have h4:=h2 z hz;rw [Bool.and_eq_true] at h4;exact wnode_any 5 z h4.1 h4.2
   have nil:∀ (q:List Ac),q.length=0->∀ z ∈ q,AcC w0 R k z:=fun q hq z hz=>by
    rw [List.eq_nil_of_length_eq_zero hq] at hz;simp at hz
   refine wact_of h1 hN ?_ ?_
   . split at h3
     . exact wact_any k _ (Bool.and_eq_true .. ▸ h3).1
     . split at h3
       . exact wact_any k _ (Bool.and_eq_true .. ▸ h3).1
       . simp only [Bool.and_eq_true,decide_eq_true_eq] at h3
         exact nil _ h3.1
   . split at h3
     . exact wact_any k _ (Bool.and_eq_true .. ▸ h3).2
     . split at h3
       . simp only [Bool.and_eq_true,decide_eq_true_eq] at h3
         exact nil _ h3.2
       . simp only [Bool.and_eq_true,decide_eq_true_eq] at h3
         exact nil _ h3.2
end Go.Proofs.YtndkhgakfodldaaGreatDoor

namespace Go.Proofs.YtndkhgakfodldaaGreatDoor
set_option maxRecDepth 100000
set_option maxHeartbeats 1600000
open Go.RowKit Go.Maps Go.WideMaps
set_option linter.unusedSimpArgs false
set_option linter.unusedVariables false
def grw:Nat->Nat
 | 0=>0
 | k+1=>3*grw k+4
theorem ndsW_grow {f:Nd->Wrt->Wrt} {g:Nat}:∀ (l:List Nd),(∀ y ∈ l,∀ s,(f y s).code.length<=s.code.length+g)->∀ s,(ndsW f l s).code.length<=s.code.length+l.length*g
 | [],_,s=>by simp [ndsW]
 | x :: r,h,s=>by
   have h1:=h x (List.mem_cons_self ..) s;have h2:=ndsW_grow r (fun y hy=>h y (List.mem_cons_of_mem _ hy)) (f x s);show (ndsW f r (f x s)).code.length<=_;simp only [List.length_cons,Nat.add_mul,Nat.one_mul];omega
def Few (c:Ck):Prop:=∀ m at_ k:Int,prtB c m at_ k=true->k<=3
theorem nodeA_few {c:Ck} (hc:Few c) {x:Nd} (h:nodeA c x=true):x.args.length<=3:=by
 obtain ⟨op,n,m,at_,args⟩:=x;show args.length<=3
 by_cases e1:op=1
 . subst e1;simp [nodeA,Nd.op,Nd.args] at h;rw [h.1];simp
 by_cases e3:op=16
 . subst e3;simp [nodeA,Nd.op,Nd.args] at h;rw [h.1];simp
 by_cases e4:op=3
 . subst e4;simp [nodeA,Nd.op,Nd.args] at h;rw [h.1];simp
 by_cases e5:op=4
 . subst e5;have:=nodeA_4 h;omega
 by_cases e6:op=5
 . subst e6
   simp [nodeA,Nd.op,Nd.args,Nd.m,Nd.at_] at h;have:=hc _ _ _ h.2;omega
 have hl:=nodeA_9 h e1 e3 e4 e5 e6;unfold argsOf at hl
 split at hl
 . omega
 . split at hl
   . omega
   . split at hl<;>omega
theorem ndW_grow {c:Ck} (hc:Few c):∀ (k:Nat) (x:Nd),nodeA c x=true->ndsB c k x.args=true->∀ s,(ndW (k+1) x s).code.length<=s.code.length+grw (k+1):=by
 have key:∀ (k:Nat) (x:Nd),nodeA c x=true->(∀ y ∈ x.args,∀ s,(ndW k y s).code.length<=s.code.length+grw k)->∀ s,(ndW (k+1) x s).code.length<=s.code.length+grw (k+1):=by
  intro k x hx hN s;have hl:=nodeA_few hc hx;obtain ⟨op,n,m,at_,args⟩:=x
  have hA:∀ i s,(ndW k (argN args i) s).code.length<=s.code.length+grw k:=fun i s=>by
   by_cases hi:i<args.length
   . rw [argN_get _ _ hi];exact hN _ (List.getElem_mem hi) s
   . have:argN args i=nd0:=by simp [argN,List.getD_eq_getElem?_getD,List.getElem?_eq_none (Nat.le_of_not_lt hi)]
     rw [this]
     cases k with
     | zero=>exact Nat.le_add_right ..
     | succ k=>
       show (putW 10 0 0 (ndsW (ndW k) [] s)).code.length<=_;rw [putW_len];show s.code.length+1<=s.code.length+(3*grw k+4);omega
  have hall:=ndsW_grow (f:=ndW k) (g:=grw k) args hN s;have hm:args.length*grw k<=3*grw k:=Nat.mul_le_mul_right _ hl;have h0:=hA 0 s;have h1:=hA 1 (jmpW 12 0 (ndW k (argN args 0) s));have h2:=hA 1 (landW (ndW k (argN args 0) s).code.length (jmpW 11 0 (putW 1 1 0 (jmpW 12 0 (ndW k (argN args 0) s)))));rw [ndW_succ];unfold ndStep;simp only [grw];simp only [landW_len,jmpW_len,putW_len] at h1 h2
  repeat' split
  all_goals (simp only [putW_len,fixW_len,idxW,callW,andW,orW,landW_len,jmpW_len];omega)
 intro k
 induction k with
 | zero=>intro x h1 h2;exact key 0 x h1 (fun y hy s=>Nat.le_add_right ..)
 | succ k ih=>
   intro x h1 h2;refine key (k+1) x h1 (fun y hy=>?_);rw [show ndsB c (k+1) x.args=x.args.all (fun x=>nodeA c x&&ndsB c k x.args) from rfl,List.all_eq_true] at h2;have h4:=h2 y hy;rw [Bool.and_eq_true] at h4;exact ih y h4.1 h4.2
theorem blkW_grow {f:Ac->Wrt->Wrt} {g:Nat}:∀ (l:List Ac),(∀ y ∈ l,∀ s,(f y s).code.length<=max s.code.length 2048+g)->∀ s,(blkW f l s).code.length<=max s.code.length (2048+g)
 | [],_,s=>Nat.le_max_left ..
 | x :: r,h,s=>by
   have h1:=h x (List.mem_cons_self ..) s;have h2:=blkW_grow r (fun y hy=>h y (List.mem_cons_of_mem _ hy));show (blkW f r (if fullW s=true then s else f x s)).code.length<=_;split
   . exact h2 s
   . rename_i hf
     have:=h2 (f x s);unfold fullW at hf;simp only [decide_eq_true_eq] at hf;omega
theorem acsB_in {c:Ck} {k:Nat} {l:List Ac} (h:acsB c (k+1) l=true) {y:Ac} (hy:y ∈ l):actA c y=true/\ndsB c 6 y.args=true/\(acsB c k y.body=true\/y.body.length=0)/\(acsB c k y.other=true\/y.other.length=0):=by
 simp only [acsB,Bool.and_eq_true,List.all_eq_true] at h;obtain ⟨h1,h2,h3⟩:=h.2 y hy;refine ⟨h1,h2,?_⟩
 split at h3
 . rw [Bool.and_eq_true] at h3;exact ⟨Or.inl h3.1,Or.inl h3.2⟩
 . split at h3
   . rw [Bool.and_eq_true] at h3;exact ⟨Or.inl h3.1,Or.inr (of_decide_eq_true h3.2)⟩
   . rw [Bool.and_eq_true] at h3;exact ⟨Or.inr (of_decide_eq_true h3.1),Or.inr (of_decide_eq_true h3.2)⟩
theorem acW_grow {c:Ck} (hc:Few c):∀ (k:Nat) (l:List Ac),acsB c k l=true->∀ y ∈ l,∀ s,(acW k y s).code.length<=max s.code.length 2048+5000*k
 | 0,l,h=>by simp [acsB] at h
 | k + 1,l,h=>fun y hy s=>by
   obtain ⟨h1,h2,h3,h4⟩:=acsB_in h hy;obtain ⟨op,n,m,at_,args,body,other⟩:=y;obtain ⟨⟨o1,o7⟩,l2,l1⟩:=actA_args h1;simp only [Ac.args,Ac.body,Ac.other] at h2 h3 h4
   have hN:∀ z ∈ args,∀ s,(ndW 6 z s).code.length<=s.code.length+1456:=fun z hz s=>by
    rw [show ndsB c 6 args=args.all (fun x=>nodeA c x&&ndsB c 5 x.args) from rfl,List.all_eq_true] at h2;have h5:=h2 z hz;rw [Bool.and_eq_true] at h5;exact ndW_grow hc 5 z h5.1 h5.2 s
   have hA:∀ i,i<args.length->∀ s,(ndW 6 (argN args i) s).code.length<=s.code.length+1456:=fun i hi s=>by
    rw [argN_get _ _ hi];exact hN _ (List.getElem_mem hi) s
   have nil:∀ (q:List Ac),q.length=0->∀ s,(blkW (acW k) q s).code.length<=max s.code.length (2048+5000*k):=fun q hq s=>by
    rw [List.eq_nil_of_length_eq_zero hq];exact Nat.le_max_left ..
   have hB:∀ s,(blkW (acW k) body s).code.length<=max s.code.length (2048+5000*k):=by
    rcases h3 with h3 | h3
    . exact blkW_grow _ (acW_grow hc k _ h3)
    . exact nil _ h3
   have hO:∀ s,(blkW (acW k) other s).code.length<=max s.code.length (2048+5000*k):=by
    rcases h4 with h4 | h4
    . exact blkW_grow _ (acW_grow hc k _ h4)
    . exact nil _ h4
   rw [acW_succ];unfold acStep
   by_cases e3:op=3
   . subst e3
     have hp:args.length<=3:=by
      simp [actA,Ac.op,Ac.args,Ac.m,Ac.at_] at h1;have:=hc _ _ _ h1.2;omega
     have h5:=ndsW_grow (f:=ndW 6) (g:=1456) args hN s;have h6:args.length*1456<=3*1456:=Nat.mul_le_mul_right _ hp;simp only [show ¬ ((3:Int)=1) from by decide,show ¬ ((3:Int)=2) from by decide,if_true,if_false,putW_len,callW,fixW_len];omega
   have hl0:0<args.length:=by
    by_cases e2:op=2
    . have:=l2 e2;omega
    . have:=l1 e2 e3;omega
   have h0:=hA 0 hl0 s;have b1:=hB (jmpW 12 0 (ndW 6 (argN args 0) s));have b2:=hO (landW (ndW 6 (argN args 0) s).code.length (jmpW 11 0 (blkW (acW k) body (jmpW 12 0 (ndW 6 (argN args 0) s)))));have b3:=hB (putW 16 0 0 (jmpW 12 0 (ndW 6 (argN args 0) s)));simp only [landW_len,jmpW_len,putW_len] at b1 b2 b3
   by_cases e2:op=2
   . subst e2
     have h7:=hA 1 (by have:=l2 rfl;omega) (idxW (ndW 6 (argN args 0)) n m at_ s);simp only [show ¬ ((2:Int)=1) from by decide,if_true,if_false,putW_len];simp only [idxW,fixW_len] at h7 ⊢;omega
   repeat' split
   all_goals first
    | omega
    | (simp only [putW_len,setW,brW,whW];omega)
    | (unfold setW;split<;>simp only [putW_len,fixW_len]<;>omega)
    | (unfold brW;split<;>simp only [landW_len]<;>omega)
    | (unfold whW;simp only [landW_len,jmpW_len];omega)
theorem bodyW_grow {c:Ck} (hc:Few c) (p:Pt) (h:acsB c 6 p.body=true) (s:Wrt):(bodyW p s).code.length<=max s.code.length 32048+3:=by
 have:=blkW_grow p.body (acW_grow hc 6 p.body h) (putW 14 p.params p.locals s);simp only [putW_len] at this;simp only [bodyW,putW_len];omega
theorem wbody_any {w0 w:World} {R:Nat} {K:List (Nat × Obj)} {s:Wrt} {A:Nat->Prop} {p:Pt} {a:Option Addr} {cap:Nat} {c:Ck} (hp:acsB c 6 p.body=true) (hD:DAt w0 A a p.body.length (acsD p.body)) (h:Wri w0 w R K s) (hr:(bodyW p s).code.length<=1000000) :
 Calls Tryz.prog 79 #[.pointer (some ⟨R,0,none⟩),.agg #[.int .i64 p.params,.int .i64 p.locals,.slice a p.body.length cap]] w fun e w'=>e = .returned (.tuple #[])/\Wri w0 w' R K (bodyW p s):=by
 have HW:Hid (Wri w0 (w.alloc (.cells #[.int .i64 p.params,.int .i64 p.locals,.slice a p.body.length cap] 106)) R ((w.heap.size,.cells #[.int .i64 p.params,.int .i64 p.locals,.slice a p.body.length cap] 106) :: K) s):=h.box _;have m1:=blkW_mono (acW_mono 6) p.body (putW 14 p.params p.locals s)
 have r1:(blkW (acW 6) p.body (putW 14 p.params p.locals s)).code.length+2<=1000000:=by simp only [bodyW,putW_len] at hr;omega
 rw [putW_len] at m1;have HB:=hid (fun (K:List (Nat × Obj)) (s:Wrt) (w:World)=>wblock_any (w:=w) (K:=K) (s:=s) (cap:=cap) (wact_any (w0:=w0) (R:=R) 6 p.body hp) hD);clear h hp hD;go_enter Tryz.func79,Tryz.ntmps79;go_wp2_with fail;refine (put_any 14 p.params p.locals HW.out (by omega)).mono ?_;rintro e w1 ⟨rfl,h1⟩;have H1:=hid h1;clear h1;obtain ⟨q0,q1,q2, -⟩:=cellsOf3 H1.out.head;go_wp2_with fail;refine (HB.out _ _ _ H1.out (by omega)).mono ?_;rintro e w2 ⟨rfl,h2⟩;have H2:=hid h2;clear h2 q0 q1 q2;go_wp2_with fail;refine (put_any 1 0 0 H2.out (by omega)).mono ?_;rintro e w3 ⟨rfl,h3⟩;have H3:=hid h3;clear h3;go_wp2_with fail;refine (put_any 15 0 0 H3.out (by rw [putW_len];omega)).mono ?_;rintro e w4 ⟨rfl,h4⟩;have H4:=hid h4;clear h4;go_wp2_with fail;go_end0;exact ⟨rfl,H4.out.tail⟩
end Go.Proofs.YtndkhgakfodldaaGreatDoor

namespace Go.Proofs.YtndkhgakfodldaaGreatDoor
set_option maxRecDepth 100000
set_option maxHeartbeats 1600000
open Go.RowKit Go.Maps Go.WideMaps
set_option linter.unusedSimpArgs false
set_option linter.unusedVariables false
def numS (m at_ n:Int):Bool:=decide (n=1/\at_=512)||lieB 512 at_ n
def prtS (m at_ k:Int):Bool:=decide (0<=at_/\at_<6)&&decide (k<=3)
theorem unseenNum_any (m at_ n:Int) (w:World) (ha:(Lit.int .i64 at_).wf=true) (h1:1<=n) (h2:n<=32) :
 Calls Tryz.prog 327 #[.agg #[],.int .i64 m,.int .i64 at_,.int .i64 n] w fun e w'=>e = .returned (.bool (numS m at_ n))/\Below w.heap.size w w':=by
 by_cases t1:n=1
 . by_cases t2:at_=512
   . have HR:Hid (numS m at_ n=true):=by show _=_;unfold numS;rw [decide_eq_true ⟨t1,t2⟩];rfl
     subst t1;subst t2;clear ha h1 h2;go_enter Tryz.func327,Tryz.ntmps327;go_wp2_with fail;go_ret;exact ⟨ret_bool (by first | exact HR.out.symm | (rw [HR.out]<;>first | (simp;omega) | (simp [*];done))),al1 _ _⟩
   . have HR:Hid (numS m at_ n=lieB 512 at_ n):=by show _=_;unfold numS;rw [decide_eq_false (fun h=>t2 h.2)];rfl
     have HL:=hid (lieIn_any 512 at_ n (w.alloc (.cells #[] 133)) (by decide) (by decide) h1 h2 ha);subst t1;clear ha h1 h2;go_enter Tryz.func327,Tryz.ntmps327;go_wp2_with fail;refine HL.out.mono ?_;rintro e w1 ⟨rfl,rfl⟩;go_wp2_with fail;go_ret;exact ⟨ret_bool (by first | exact HR.out.symm | (rw [HR.out]<;>first | (simp;omega) | (simp [*];done))),al1 _ _⟩
 . have HR:Hid (numS m at_ n=lieB 512 at_ n):=by show _=_;unfold numS;rw [decide_eq_false (fun h=>t1 h.1)];rfl
   have HL:=hid (lieIn_any 512 at_ n (w.alloc (.cells #[] 133)) (by decide) (by decide) h1 h2 ha);clear ha h1 h2;go_enter Tryz.func327,Tryz.ntmps327;go_wp2_with fail;refine HL.out.mono ?_;rintro e w1 ⟨rfl,rfl⟩;go_wp2_with fail;go_ret;exact ⟨ret_bool (by first | exact HR.out.symm | (rw [HR.out]<;>first | (simp;omega) | (simp [*];done))),al1 _ _⟩
theorem unseenPart_any (m at_:Int) (k:Nat) (w:World) :
 Calls Tryz.prog 328 #[.agg #[],.int .i64 m,.int .i64 at_,.int .i64 k] w fun e w'=>e = .returned (.bool (prtS m at_ k))/\Below w.heap.size w w':=by
 by_cases t1:0<=at_
 . by_cases t2:at_<6
   . have HR:Hid (prtS m at_ k=decide ((k:Int)<=3)):=by show _=_;unfold prtS;rw [decide_eq_true ⟨t1,t2⟩];rfl
     go_enter Tryz.func328,Tryz.ntmps328;go_wp2_with fail;go_ret;exact ⟨ret_bool (by first | exact HR.out.symm | (rw [HR.out]<;>first | (simp;omega) | (simp [*];done))),al1 _ _⟩
   . have HR:Hid (prtS m at_ k=false):=by show _=_;unfold prtS;rw [decide_eq_false (fun h=>t2 h.2)];rfl
     have t2':6<=at_:=by omega
     clear t2;go_enter Tryz.func328,Tryz.ntmps328;go_wp2_with fail;go_ret;exact ⟨ret_bool (by first | exact HR.out.symm | (rw [HR.out]<;>first | (simp;omega) | (simp [*];done))),al1 _ _⟩
 . have HR:Hid (prtS m at_ k=false):=by show _=_;unfold prtS;rw [decide_eq_false (fun h=>t1 h.1)];rfl
   have t1':at_<0:=by omega
   clear t1;go_enter Tryz.func328,Tryz.ntmps328;go_wp2_with fail;go_ret;exact ⟨ret_bool (by first | exact HR.out.symm | (rw [HR.out]<;>first | (simp;omega) | (simp [*];done))),al1 _ _⟩
theorem unseen_uses (w:World) (u:Un) (lc:Int):UsAt w (ckOf u numS prtS lc) 327 328 (.agg #[]):=
 ⟨fun W _ m at_ n _ ha h1 h2=>unseenNum_any m at_ n W ha h1 h2,fun W _ m at_ k _ _ _=>unseenPart_any m at_ k W⟩
theorem holdS_any (u:Un) (x1:Option Addr) (y1:Nat) (x2:Option Addr) (y2:Nat) (x3:Option Addr) (y3:Nat) (w:World) (hU:UvAt w u x1 y1 x2 y2 x3 y3) :
 Calls Tryz.prog 77 #[.agg #[.string u.name,.slice x1 u.uses.length y1,.int .i64 u.data,.slice x2 u.parts.length y2,.slice x3 u.main.length y3],.iface 133 (.agg #[])] w fun e w'=>e = .returned (.bool (holdB u numS prtS))/\Below w.heap.size w w':=
 Hold_any u numS prtS x1 y1 x2 y2 x3 y3 133 (.agg #[]) w hU (fun hh lc W hW=>by
  have hd:=headB_data hh
  exact ckS (ckOf u numS prtS lc) u.name x1 y1 x2 y2 x3 u.main.length y3 W hd.1 hd.2 (hU.later hW).uses.bound (hU.later hW).parts (unseen_uses W u lc))
structure Ob where
 name:ByteArray
 uses:List ByteArray
 data:Int
 code:List Gi
 fixes:List Gf
 entries:List Int
 main:Int
def wr0:Wrt:=⟨[],[]⟩
def partsW (l:List Pt):Wrt:=l.foldl (fun s p=>bodyW p s) wr0
def entsW (l:List Pt):List Int:=(List.range l.length).map (fun i=>((partsW (l.take i)).code.length:Int))
def genS (u:Un):Wrt:=bodyW ⟨0,0,u.main⟩ (partsW u.parts)
def genOb (u:Un):Ob:=⟨u.name,u.uses,u.data,(genS u).code,(genS u).fixes,entsW u.parts,(partsW u.parts).code.length⟩
def genM (u:Un):Except Int Ob:=
 if (Go.Lib.containsS u.uses u.name || !holdB u numS prtS)=true then .error 1
 else if fullW (genS u)=true then .error 2
 else .ok (genOb u)
theorem partsW_take (l:List Pt) (j:Nat) (h:j<l.length):partsW (l.take (j+1))=bodyW l[j] (partsW (l.take j)):=by
 rw [List.take_succ_eq_append_getElem h];unfold partsW;rw [List.foldl_append]
 rfl
def entsTo (l:List Pt) (j:Nat):List Int:=(List.range j).map (fun i=>((partsW (l.take i)).code.length:Int))
theorem entsTo_succ (l:List Pt) (j:Nat):entsTo l (j+1)=entsTo l j++[((partsW (l.take j)).code.length:Int)]:=by
 unfold entsTo;rw [List.range_succ,List.map_append]
 rfl
theorem entsTo_len (l:List Pt) (j:Nat):(entsTo l j).length=j:=by simp [entsTo]
theorem holdB_parts {u:Un} {num prt:Int->Int->Int->Bool} (h:holdB u num prt=true):(∀ p ∈ u.parts,acsB (ckOf u num prt (p.params+p.locals)) 6 p.body=true)/\acsB (ckOf u num prt 0) 6 u.main=true/\headB u=true:=by
 unfold holdB at h;simp only [Bool.and_eq_true,List.all_eq_true] at h;exact ⟨h.2.1,h.2.2,h.1⟩
theorem ckOf_few {u:Un} (h:headB u=true) (lc:Int):Few (ckOf u numS prtS lc):=fun m at_ k hk=>by
 unfold prtB at hk
 split at hk
 . unfold hasP at hk
   rw [Bool.and_eq_true] at hk;obtain ⟨_,h2⟩:=hk;unfold headB at h;simp only [Bool.and_eq_true,List.all_eq_true] at h;simp only [ckOf] at h2
   cases hq:u.parts[at_.toNat]? with
   | none=>rw [hq] at h2;cases h2
   | some p=>
     rw [hq] at h2;have h3:=of_decide_eq_true h2;have h4:=h.2.1 p (List.mem_of_getElem? hq);unfold ptB at h4;rw [Bool.and_eq_true] at h4;have h5:=of_decide_eq_true h4.1;omega
 . rw [Bool.and_eq_true] at hk
   simp only [ckOf,prtS,Bool.and_eq_true] at hk;exact of_decide_eq_true hk.2.2
theorem partsW_le {u:Un} (h:holdB u numS prtS=true):∀ j,j<=u.parts.length->(partsW (u.parts.take j)).code.length<=32051+3*j
 | 0,_=>by simp [partsW,wr0]
 | j+1,hj=>by
   have h1:=partsW_le h j (by omega);obtain ⟨hp,_,hh⟩:=holdB_parts h;have h2:=bodyW_grow (ckOf_few hh _) u.parts[j] (hp _ (List.getElem_mem (by omega))) (partsW (u.parts.take j));rw [partsW_take _ _ (by omega)];omega
theorem headB_six {u:Un} (h:headB u=true):u.parts.length<=6:=by
 unfold headB at h;simp only [Bool.and_eq_true] at h;exact of_decide_eq_true h.2.2.2
theorem genS_le {u:Un} (h:holdB u numS prtS=true):(genS u).code.length<=33000:=by
 obtain ⟨_,hm,hh⟩:=holdB_parts h;have h1:=partsW_le h u.parts.length (Nat.le_refl _);rw [List.take_length] at h1;have h2:=headB_six hh;have h3:=bodyW_grow (ckOf_few hh 0) ⟨0,0,u.main⟩ hm (partsW u.parts);unfold genS;omega
end Go.Proofs.YtndkhgakfodldaaGreatDoor

namespace Go.Proofs.YtndkhgakfodldaaGreatDoor
set_option linter.unusedSimpArgs false
set_option linter.unusedVariables false
def inR (i:Gi) (n:Nat):Prop:=(1<=i.op/\i.op<=22)/\(0<=i.a/\i.a<=1099511627776+n)/\(0<=i.b/\i.b<=64)
theorem inR.mono {i:Gi} {n n':Nat} (h:inR i n) (hn:n<=n'):inR i n':=by unfold inR at *;omega
theorem inR_of (op a b:Int) (h:(1<=op/\op<=22)/\(0<=a/\a<=1099511627776)/\(0<=b/\b<=64)):inR ⟨op,a,b⟩ 0:=by unfold inR;simp only;omega
def fixR (us:Int) (J:Nat->Prop) (lo hi k:Nat) (f:Gf) (a:Int):Prop:=
 (f.kind=1/\f.m=0/\(J k\/((lo:Int)<=a/\a<=hi)))\/((f.kind=2\/f.kind=3)/\¬ J k/\(0<=a/\a<=2048)/\(0<=f.m/\f.m<=us))
theorem fixR.mono {us:Int} {J J':Nat->Prop} {lo hi hi' k:Nat} {f:Gf} {a:Int} (h:fixR us J lo hi k f a) (hJ:J' k↔J k) (hh:hi<=hi'):fixR us J' lo hi' k f a:=by
 rcases h with ⟨h1,h2,h3⟩ | ⟨h1,h2,h3⟩
 . refine Or.inl ⟨h1,h2,?_⟩
   rcases h3 with h3 | h3
   . exact Or.inl (hJ.2 h3)
   . exact Or.inr (by omega)
 . exact Or.inr ⟨h1,fun h=>h2 (hJ.1 h),h3⟩
structure Adds (us:Int) (J:Nat->Prop) (s t:Wrt):Prop where
 le:s.code.length<=t.code.length
 pre:∀ k,k<s.code.length->t.code[k]? = s.code[k]?
 ins:∀ (k:Nat) (i:Gi),s.code.length<=k->t.code[k]? = some i->inR i t.code.length
 jb:∀ k,J k->s.code.length<=k/\k<t.code.length
 fx:∃ e,t.fixes=s.fixes++e/\e.Pairwise (fun f g=>f.at_<g.at_)/\∀ f ∈ e,∃ (k:Nat) (i:Gi),t.code[k]? = some i/\f.at_=(k:Int)/\s.code.length<=k/\fixR us J s.code.length t.code.length k f i.a
theorem lt_some {α:Type} {l:List α} {k:Nat} {x:α} (h:l[k]? = some x):k<l.length:=by
 rcases Nat.lt_or_ge k l.length with h1 | h1
 . exact h1
 . rw [List.getElem?_eq_none h1] at h;cases h
section
variable {us:Int} {J J':Nat->Prop} {s t u:Wrt}
theorem Adds.cong (h:Adds us J s t) (hJ:∀ k,J' k↔J k):Adds us J' s t:=by
 obtain rfl:J'=J:=funext fun k=>propext (hJ k)
 exact h
theorem Adds.refl (s:Wrt):Adds us (fun _=>False) s s:=
 ⟨Nat.le_refl _,fun _ _=>rfl,fun k i h1 h2=>by have:=lt_some h2;omega,fun _ h=>h.elim,[],by simp,List.Pairwise.nil,fun f hf=>by cases hf⟩
theorem Adds.snoc (h:Adds us J s t) (i:Gi) (hi:inR i 0\/inR i (t.code.length+1)) (hJ:∀ k,k<t.code.length->(J' k↔J k)) (hJb:∀ k,J' k->s.code.length<=k/\k<=t.code.length) (e':List Gf)
 (he':e'=[]\/∃ f,e'=[f]/\f.at_=(t.code.length:Int)/\fixR us J' s.code.length (t.code.length+1) t.code.length f i.a):Adds us J' s ⟨t.code++[i],t.fixes++e'⟩:=by
 obtain ⟨e,he,hp,hf⟩:=h.fx;have hl:=h.le
 have hlen:(t.code++[i]).length=t.code.length+1:=by simp
 have old:∀ k,k<t.code.length->(t.code++[i])[k]? = t.code[k]?:=fun k hk=>List.getElem?_append_left hk
 have new:(t.code++[i])[t.code.length]? = some i:=by simp
 have hi':inR i (t.code.length+1):=by rcases hi with h1 | h1;exact h1.mono (Nat.zero_le _);exact h1
 refine ⟨by simp only [hlen];omega,fun k hk=>(old k (by omega)).trans (h.pre k hk),fun k x hk hx=>?_,fun k hk=>by have:=hJb k hk;simp only [hlen];omega,e++e',by simp only [he,List.append_assoc],?_,fun f hfm=>?_⟩
 . simp only [hlen]
   have hx':=lt_some hx;rw [hlen] at hx'
   rcases Nat.lt_or_ge k t.code.length with h1 | h1
   . exact (h.ins k x hk ((old k h1).symm.trans hx)).mono (by omega)
   . obtain rfl:k=t.code.length:=by omega
     obtain rfl:i=x:=by rw [new] at hx;exact Option.some.inj hx
     exact hi'
 . refine List.pairwise_append.2 ⟨hp,?_,fun f hfm g hg=>?_⟩
   . rcases he' with rfl | ⟨f,rfl,_⟩
     . exact List.Pairwise.nil
     . exact List.pairwise_singleton ..
   . obtain ⟨k,x,hx,hk,_⟩:=hf f hfm
     have:=lt_some hx
     rcases he' with rfl | ⟨f',rfl,ha,_⟩
     . cases hg
     . rw [List.mem_singleton] at hg;subst hg;omega
 . rcases List.mem_append.1 hfm with h1 | h1
   . obtain ⟨k,x,hx,hk,hs,hr⟩:=hf f h1
     have hkl:=lt_some hx;exact ⟨k,x,(old k hkl).trans hx,hk,hs,hr.mono (hJ k hkl) (by simp only [hlen];omega)⟩
   . rcases he' with rfl | ⟨f',rfl,ha,hr⟩
     . cases h1
     . rw [List.mem_singleton] at h1;subst h1
       exact ⟨t.code.length,i,new,ha,hl,by simp only [hlen];exact hr⟩
theorem Adds.put (h:Adds us J s t) (op a b:Int) (hi:(1<=op/\op<=22)/\(0<=a/\a<=1099511627776)/\(0<=b/\b<=64)):Adds us J s (putW op a b t):=by
 have:=h.snoc (J':=J) ⟨op,a,b⟩ (Or.inl (inR_of _ _ _ hi)) (fun _ _=>Iff.rfl) (fun k hk=>by have:=h.jb k hk;omega) [] (Or.inl rfl);rw [List.append_nil] at this;exact this
theorem Adds.fix (h:Adds us J s t) (kind m op a b:Int) (hk:kind=2\/kind=3) (hi:(1<=op/\op<=22)/\(0<=a/\a<=2048)/\(0<=b/\b<=64)) (hm:0<=m/\m<=us):Adds us J s (fixW kind m ⟨op,a,b⟩ t):=
 h.snoc (J':=J) ⟨op,a,b⟩ (Or.inl (inR_of _ _ _ (by omega))) (fun _ _=>Iff.rfl) (fun k hk=>by have:=h.jb k hk;omega) [⟨t.code.length,kind,m⟩]
  (Or.inr ⟨_,rfl,rfl,Or.inr ⟨hk,fun hj=>by have:=(h.jb _ hj).2;omega,hi.2.1,hm⟩⟩)
theorem Adds.jump (h:Adds us J s t) (op:Int) (ho:1<=op/\op<=22):Adds us (fun x=>J x\/x=t.code.length) s (jmpW op 0 t):=
 h.snoc ⟨op,0,0⟩ (Or.inl (inR_of _ _ _ (by omega))) (fun k hk=>⟨fun h=>h.elim id (fun e=>by omega),Or.inl⟩) (fun k hk=>by rcases hk with hk | rfl;have:=h.jb k hk;omega;exact ⟨h.le,Nat.le_refl _⟩) [⟨t.code.length,1,0⟩]
  (Or.inr ⟨_,rfl,rfl,Or.inl ⟨rfl,rfl,Or.inl (Or.inr rfl)⟩⟩)
theorem Adds.back (h:Adds us J s t) (op:Int) (ho:1<=op/\op<=22):Adds us J s (jmpW op s.code.length t):=
 have hl:=h.le
 h.snoc (J':=J) ⟨op,s.code.length,0⟩ (Or.inr (by unfold inR;simp only;omega)) (fun _ _=>Iff.rfl) (fun k hk=>by have:=h.jb k hk;omega) [⟨t.code.length,1,0⟩]
  (Or.inr ⟨_,rfl,rfl,Or.inl ⟨rfl,rfl,Or.inr (by simp only;omega)⟩⟩)
theorem land_ne (t:Wrt) {j k:Nat} (h:j≠k):(landW k t).code[j]? = t.code[j]?:=by
 simp only [landW,List.getElem?_modify];rw [show (fun a=>if k=j then setA (t.code.length:Int) a else a)=id from funext fun a=>if_neg (fun e=>h e.symm)];simp
theorem land_eq (t:Wrt) {k:Nat} {i:Gi} (h:t.code[k]? = some i):(landW k t).code[k]? = some (setA t.code.length i):=by
 simp only [landW,List.getElem?_modify,h];simp
theorem Adds.land (h:Adds us J s t) {k:Nat} (hk:J k):Adds us (fun x=>J x/\x≠k) s (landW k t):=by
 obtain ⟨e,he,hp,hf⟩:=h.fx;have hl:=h.le;have hkb:=h.jb k hk;refine ⟨by rw [landW_len];exact hl,fun j hj=>(land_ne t (by omega)).trans (h.pre j hj),fun j i hj hi=>?_,fun j hj=>by rw [landW_len];exact h.jb j hj.1,e,he,hp,fun f hfm=>?_⟩
 . rw [landW_len]
   by_cases e:j=k
   . subst e
     have hg:t.code[j]? = some t.code[j]:=List.getElem?_eq_getElem hkb.2;rw [land_eq t hg] at hi;obtain rfl:=Option.some.inj hi;have:=h.ins j _ hj hg;unfold inR at this ⊢;simp only [setA];omega
   . rw [land_ne t e] at hi;exact h.ins j i hj hi
 . obtain ⟨j,i,hi,ha,hs,hr⟩:=hf f hfm
   rw [landW_len]
   by_cases e:j=k
   . subst e
     refine ⟨j,_,land_eq t hi,ha,hs,?_⟩
     rcases hr with ⟨h1,h2,_⟩ | ⟨_,h2,_⟩
     . exact Or.inl ⟨h1,h2,Or.inr (by simp only [setA];omega)⟩
     . exact absurd hk h2
   . exact ⟨j,i,(land_ne t e).trans hi,ha,hs,hr.mono ⟨fun h=>h.1,fun h=>⟨h,e⟩⟩ (Nat.le_refl _)⟩
theorem Adds.then (h:Adds us J s t) (g:Adds us (fun _=>False) t u):Adds us J s u:=by
 obtain ⟨e,he,hp,hf⟩:=h.fx;obtain ⟨e',he',hp',hf'⟩:=g.fx;have hl:=h.le;have gl:=g.le;refine ⟨by omega,fun k hk=>(g.pre k (by omega)).trans (h.pre k hk),fun k i hk hi=>?_,fun k hk=>by have:=h.jb k hk;omega,e++e',by rw [he',he,List.append_assoc],?_,fun f hfm=>?_⟩
 . rcases Nat.lt_or_ge k t.code.length with h1 | h1
   . exact (h.ins k i hk ((g.pre k h1).symm.trans hi)).mono gl
   . exact g.ins k i h1 hi
 . refine List.pairwise_append.2 ⟨hp,hp',fun f hfm x hx=>?_⟩
   obtain ⟨k,i,hi,ha,_⟩:=hf f hfm;obtain ⟨k',i',hi',ha',hs',_⟩:=hf' x hx;have:=lt_some hi;omega
 . rcases List.mem_append.1 hfm with h1 | h1
   . obtain ⟨k,i,hi,ha,hs,hr⟩:=hf f h1
     exact ⟨k,i,(g.pre k (lt_some hi)).trans hi,ha,hs,hr.mono Iff.rfl gl⟩
   . obtain ⟨k,i,hi,ha,hs,hr⟩:=hf' f h1
     refine ⟨k,i,hi,ha,by omega,?_⟩
     rcases hr with ⟨h1,h2,h3⟩ | ⟨h1,h2,h3⟩
     . exact Or.inl ⟨h1,h2,Or.inr (by rcases h3 with h3 | h3;exact h3.elim;omega)⟩
     . exact Or.inr ⟨h1,fun hj=>by have:=(h.jb k hj).2;omega,h3⟩
end
def GoodW (us:Int) (f:Wrt->Wrt):Prop:=∀ s,Adds us (fun _=>False) s (f s)
theorem good_nds {us:Int} {f:Nd->Wrt->Wrt}:∀ {l:List Nd},(∀ y ∈ l,GoodW us (f y))->GoodW us (ndsW f l)
 | [],_,s=>Adds.refl s
 | x :: r,h,s=>(h x (List.mem_cons_self ..) s).then (good_nds (fun y hy=>h y (List.mem_cons_of_mem _ hy)) (f x s))
theorem good_blk {us:Int} {f:Ac->Wrt->Wrt}:∀ {l:List Ac},(∀ y ∈ l,GoodW us (f y))->GoodW us (blkW f l)
 | [],_,s=>Adds.refl s
 | x :: r,h,s=>by
   show Adds us _ s (blkW f r (if fullW s=true then s else f x s));have h2:=good_blk (l:=r) (fun y hy=>h y (List.mem_cons_of_mem _ hy));split
   . exact h2 s
   . exact (h x (List.mem_cons_self ..) s).then (h2 _)
theorem good_and {us:Int} {f g:Wrt->Wrt} (hf:GoodW us f) (hg:GoodW us g):GoodW us (andW f g):=fun s=>by
 have h3:=((hf s).jump 12 (by decide)).then (hg _);have hl:=(hg (jmpW 12 0 (f s))).le;rw [jmpW_len] at hl;have h5:=(h3.put 22 0 0 (by decide)).jump 11 (by decide);have h7:=(h5.land (k:=(f s).code.length) (Or.inl (Or.inr rfl))).put 1 0 0 (by decide);have h8:=h7.land (k:=(putW 22 0 0 (g (jmpW 12 0 (f s)))).code.length) ⟨Or.inr rfl,by rw [putW_len];omega⟩;exact h8.cong (fun k=>⟨False.elim,fun h=>by simp only [false_or] at h;omega⟩)
theorem good_or {us:Int} {f g:Wrt->Wrt} (hf:GoodW us f) (hg:GoodW us g):GoodW us (orW f g):=fun s=>by
 have h5:=(((hf s).jump 12 (by decide)).put 1 1 0 (by decide)).jump 11 (by decide);have h6:=h5.land (k:=(f s).code.length) (Or.inl (Or.inr rfl));have h7:=(h6.then (hg _)).put 22 0 0 (by decide);have h8:=h7.land (k:=(putW 1 1 0 (jmpW 12 0 (f s))).code.length) ⟨Or.inr rfl,by rw [putW_len,jmpW_len];omega⟩;exact h8.cong (fun k=>⟨False.elim,fun h=>by simp only [false_or] at h;omega⟩)
theorem good_br {us:Int} {f g h:Wrt->Wrt} (hf:GoodW us f) (hg:GoodW us g) (hh:GoodW us h) (e:Bool):GoodW us (brW f g h e):=fun s=>by
 have h3:=((hf s).jump 12 (by decide)).then (hg _);have hl:=(hg (jmpW 12 0 (f s))).le;rw [jmpW_len] at hl;unfold brW;simp only;split
 . exact (h3.land (k:=(f s).code.length) (Or.inr rfl)).cong (fun k=>⟨False.elim,fun h=>by simp only [false_or] at h;omega⟩)
 . have h5:=(h3.jump 11 (by decide)).land (k:=(f s).code.length) (Or.inl (Or.inr rfl))
   have h8:=(h5.then (hh _)).land (k:=(g (jmpW 12 0 (f s))).code.length) ⟨Or.inr rfl,by omega⟩;exact h8.cong (fun k=>⟨False.elim,fun h=>by simp only [false_or] at h;omega⟩)
theorem good_wh {us:Int} {f g:Wrt->Wrt} (hf:GoodW us f) (hg:GoodW us g):GoodW us (whW f g):=fun s=>by
 have h3:=((((hf s).jump 12 (by decide)).put 16 0 0 (by decide)).then (hg _)).back 11 (by decide);exact (h3.land (k:=(f s).code.length) (Or.inr rfl)).cong (fun k=>⟨False.elim,fun h=>by simp only [false_or] at h;omega⟩)
structure Sane (c:Ck):Prop where
 hn:∀ m at_ n:Int,1<=n->numB c m at_ n=true->(0<=at_/\at_<=2048)/\(0<=m/\m<=c.uses)
 hp:∀ m at_ k:Int,prtB c m at_ k=true->(0<=at_/\at_<=2048)/\(0<=m/\m<=c.uses)
 hl:c.locals<=64
theorem good_nd {c:Ck} (hc:Sane c):∀ (k:Nat) (x:Nd),nodeA c x=true->ndsB c k x.args=true->GoodW c.uses (ndW (k+1) x):=by
 have key:∀ (k:Nat) (x:Nd),nodeA c x=true->(∀ y ∈ x.args,GoodW c.uses (ndW k y))->GoodW c.uses (ndW (k+1) x):=by
  intro k x hx hN s;obtain ⟨op,n,m,at_,args⟩:=x
  have hA:∀ i,GoodW c.uses (ndW k (argN args i)):=fun i s=>by
   by_cases hi:i<args.length
   . rw [argN_get _ _ hi];exact hN _ (List.getElem_mem hi) s
   . have:argN args i=nd0:=by simp [argN,List.getD_eq_getElem?_getD,List.getElem?_eq_none (Nat.le_of_not_lt hi)]
     rw [this]
     cases k with
     | zero=>exact Adds.refl s
     | succ k=>exact (Adds.refl s).put 10 0 0 (by decide)
  rw [ndW_succ];unfold ndStep
  by_cases e1:op=1
  . subst e1
    have hx':(decide (args.length=0)&&(decide (0<=n/\n<=1099511627775)&&(decide (m=0)&&decide (at_=0))))=true:=hx;simp only [Bool.and_eq_true,decide_eq_true_eq] at hx';rw [if_pos rfl];exact (Adds.refl s).put _ _ _ (by omega)
  rw [if_neg e1]
  by_cases e2:op=2
  . rw [if_pos e2];exact (Adds.refl s).put _ _ _ (by decide)
  rw [if_neg e2]
  by_cases e3:op=16
  . subst e3
    have:=hc.hl;have hx':(decide (args.length=0)&&(decide (n=0)&&(decide (m=0)&&locB c at_)))=true:=hx;simp only [locB,Bool.and_eq_true,decide_eq_true_eq] at hx';rw [if_pos rfl];exact (Adds.refl s).put _ _ _ (by omega)
  rw [if_neg e3]
  by_cases e4:op=3
  . subst e4
    have hx':(decide (args.length=0)&&(decide (n=0)&&numB c m at_ 1))=true:=hx;simp only [Bool.and_eq_true] at hx';rw [if_pos rfl];have:=hc.hn _ _ _ (by decide) hx'.2.2;exact (Adds.refl s).fix _ _ _ _ _ (Or.inr rfl) (by omega) this.2
  rw [if_neg e4]
  by_cases e5:op=4
  . subst e5
    have hx':(decide (args.length=1)&&(decide (1<=n/\n<=32)&&numB c m at_ n))=true:=hx;simp only [Bool.and_eq_true,decide_eq_true_eq] at hx';rw [if_pos rfl];have:=hc.hn _ _ _ hx'.2.1.1 hx'.2.2;exact ((hA 0 s).fix _ _ _ _ _ (Or.inr rfl) (by omega) this.2).put _ _ _ (by decide)
  rw [if_neg e5]
  by_cases e6:op=5
  . subst e6
    have hx':(decide (n=0)&&prtB c m at_ args.length)=true:=hx;simp only [Bool.and_eq_true] at hx';rw [if_pos rfl];have:=hc.hp _ _ _ hx'.2;exact (good_nds hN s).fix _ _ _ _ _ (Or.inl rfl) (by omega) this.2
  rw [if_neg e6];have hl:=nodeA_9 hx e1 e3 e4 e5 e6
  by_cases e7:op=6
  . rw [if_pos e7];exact (hA 0 s).put _ _ _ (by decide)
  rw [if_neg e7]
  by_cases e8:op=7
  . rw [if_pos e8];exact good_and (hA 0) (hA 1) s
  rw [if_neg e8]
  by_cases e9:op=8
  . rw [if_pos e9];exact good_or (hA 0) (hA 1) s
  rw [if_neg e9];refine (good_nds hN s).put _ _ _ ?_;unfold argsOf at hl;rw [if_neg e2,if_neg e7] at hl
  split at hl<;>omega
 intro k
 induction k with
 | zero=>intro x h1 h2;exact key 0 x h1 (fun y hy s=>Adds.refl s)
 | succ k ih=>
   intro x h1 h2;refine key (k+1) x h1 (fun y hy=>?_);rw [show ndsB c (k+1) x.args=x.args.all (fun x=>nodeA c x&&ndsB c k x.args) from rfl,List.all_eq_true] at h2;have h4:=h2 y hy;rw [Bool.and_eq_true] at h4;exact ih y h4.1 h4.2
theorem good_ac {c:Ck} (hc:Sane c):∀ (k:Nat) (l:List Ac),acsB c k l=true->∀ y ∈ l,GoodW c.uses (acW k y)
 | 0,l,h=>by simp [acsB] at h
 | k + 1,l,h=>fun y hy s=>by
   obtain ⟨h1,h2,h3,h4⟩:=acsB_in h hy;obtain ⟨op,n,m,at_,args,body,other⟩:=y;obtain ⟨⟨o1,o7⟩,l2,l1⟩:=actA_args h1;simp only [Ac.args,Ac.body,Ac.other] at h2 h3 h4
   have hN:∀ z ∈ args,GoodW c.uses (ndW 6 z):=fun z hz=>by
    rw [show ndsB c 6 args=args.all (fun x=>nodeA c x&&ndsB c 5 x.args) from rfl,List.all_eq_true] at h2;have h5:=h2 z hz;rw [Bool.and_eq_true] at h5;exact good_nd hc 5 z h5.1 h5.2
   have hA:∀ i,i<args.length->GoodW c.uses (ndW 6 (argN args i)):=fun i hi=>by
    rw [argN_get _ _ hi];exact hN _ (List.getElem_mem hi)
   have nil:∀ (q:List Ac),q.length=0->GoodW c.uses (blkW (acW k) q):=fun q hq s=>by
    rw [List.eq_nil_of_length_eq_zero hq];exact Adds.refl s
   have hB:GoodW c.uses (blkW (acW k) body):=by
    rcases h3 with h3 | h3
    . exact good_blk (good_ac hc k _ h3)
    . exact nil _ h3
   have hO:GoodW c.uses (blkW (acW k) other):=by
    rcases h4 with h4 | h4
    . exact good_blk (good_ac hc k _ h4)
    . exact nil _ h4
   rw [acW_succ];unfold acStep
   by_cases e3:op=3
   . subst e3
     have h1':(decide (n=0)&&prtB c m at_ args.length)=true:=h1;simp only [Bool.and_eq_true] at h1';have:=hc.hp _ _ _ h1'.2;simp only [show ¬ ((3:Int)=1) from by decide,show ¬ ((3:Int)=2) from by decide,if_true,if_false];exact ((good_nds hN s).fix _ _ _ _ _ (Or.inl rfl) (by omega) this.2).put _ _ _ (by decide)
   have hl0:0<args.length:=by
    by_cases e2:op=2
    . have:=l2 e2;omega
    . have:=l1 e2 e3;omega
   have h0:=hA 0 hl0
   by_cases e1:op=1
   . subst e1
     have h1':(decide (args.length=1)&&(decide (n=0)&&(if m = -1 then locB c at_ else numB c m at_ 1)))=true:=h1;rw [Bool.and_eq_true,Bool.and_eq_true] at h1';have h5:=h1'.2.2;rw [if_pos rfl];unfold setW;split
     . rename_i em
       rw [if_pos em] at h5;have:=hc.hl;simp only [locB,decide_eq_true_eq] at h5;exact (h0 s).put _ _ _ (by omega)
     . rename_i em
       rw [if_neg em] at h5;have:=hc.hn _ _ _ (by decide) h5;exact (h0 s).fix _ _ _ _ _ (Or.inr rfl) (by omega) this.2
   rw [if_neg e1]
   by_cases e2:op=2
   . subst e2
     have h7:=hA 1 (by have:=l2 rfl;omega);have h1':(decide (args.length=2)&&(decide (1<=n/\n<=32)&&numB c m at_ n))=true:=h1;simp only [Bool.and_eq_true,decide_eq_true_eq] at h1';have:=hc.hn _ _ _ h1'.2.1.1 h1'.2.2;rw [if_pos rfl];exact (((h0 s).fix _ _ _ _ _ (Or.inr rfl) (by omega) this.2).then (h7 _)).put _ _ _ (by decide)
   rw [if_neg e2,if_neg e3]
   by_cases e4:op=4
   . rw [if_pos e4];exact good_br h0 hB hO _ s
   rw [if_neg e4]
   by_cases e5:op=5
   . rw [if_pos e5];exact good_wh h0 hB s
   rw [if_neg e5]
   by_cases e6:op=6
   . rw [if_pos e6];exact (h0 s).put _ _ _ (by decide)
   rw [if_neg e6]
   by_cases e7:op=7
   . rw [if_pos e7];exact (h0 s).put _ _ _ (by decide)
   rw [if_neg e7];exact Adds.refl s
theorem good_body {c:Ck} (hc:Sane c) (p:Pt) (h:acsB c 6 p.body=true) (hp:ptB p=true) (s:Wrt):∃ t,Adds c.uses (fun _=>False) s t/\s.code.length<t.code.length/\bodyW p s=putW 15 0 0 (putW 1 0 0 t):=by
 unfold ptB at hp;simp only [Bool.and_eq_true,decide_eq_true_eq] at hp;have h1:=(Adds.refl (us:=c.uses) s).put 14 p.params p.locals (by omega);have h2:=good_blk (good_ac hc 6 p.body h) (putW 14 p.params p.locals s);have:=h2.le;rw [putW_len] at this;exact ⟨_,h1.then h2,by omega,rfl⟩
end Go.Proofs.YtndkhgakfodldaaGreatDoor
