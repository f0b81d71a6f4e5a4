/-
  Package gen: blocks, and what a statement has.
-/
import Derived.Test.YtndkhgakfodldaaGreatDoorNc
namespace Go.Proofs.YtndkhgakfodldaaGreatDoor
set_option maxRecDepth 100000
set_option maxHeartbeats 1600000
open Go.RowKit Go.Maps Go.WideMaps
set_option linter.unusedSimpArgs false
set_option linter.unusedVariables false
def AcC (w0:World) (R k:Nat) (y:Ac):Prop:=∀ (A:Nat->Prop) (a1:Option Addr) (k1:Nat) (a2:Option Addr) (k2:Nat) (a3:Option Addr) (k3:Nat) (K:List (Nat × Obj)) (s:Wrt) (w:World),DAt w0 A a1 y.args.length (ndsD y.args)->DAt w0 A a2 y.body.length (acsD y.body)->DAt w0 A a3 y.other.length (acsD y.other)->Wri w0 w R K s->(acW k y s).code.length<=1000000->
 Calls Tryz.prog 172 #[.pointer (some ⟨R,0,none⟩),.agg #[.int .i64 y.op,.int .i64 y.n,.int .i64 y.m,.int .i64 y.at_,.slice a1 y.args.length k1,.slice a2 y.body.length k2,.slice a3 y.other.length k3]] w fun e w'=>e = .returned (.tuple #[])/\Wri w0 w' R K (acW k y s)
theorem wblock_any {w0 w:World} {R k:Nat} {K:List (Nat × Obj)} {s:Wrt} {A:Nat->Prop} {l:List Ac} {a:Option Addr} {cap:Nat} (hN:∀ y ∈ l,AcC w0 R k y) (hD:DAt w0 A a l.length (acsD l)) (h:Wri w0 w R K s) (hr:(blkW (acW k) l s).code.length<=1000000) :
 Calls Tryz.prog 130 #[.pointer (some ⟨R,0,none⟩),.slice a l.length cap] w fun e w'=>e = .returned (.tuple #[])/\Wri w0 w' R K (blkW (acW k) l s):=by
 have hbd:=hD.bound;have HD:=hid hD;have HW:=hid h;have HN:=hid hN;have HR:=hid (fun j=>Nat.le_trans (blkW_le (acW k) (acW_mono k) l s j) hr);clear hD h hN hr;go_enter Tryz.func130,Tryz.ntmps130;go_wp2_with fail
 go_loopw [8] (fun i wr=>∃ j:Nat,j<=l.length/\i = .int .i64 j/\Wri w0 wr R K (blkW (acW k) (l.take j) s)) (fun i _=>l.length - (intOf i).toNat)
 case atStart=>exact ⟨0,Nat.zero_le _,rfl,HW.out⟩
 case round=>
  obtain ⟨j,hj,rfl,hw⟩:=hrel;have H1:=hid hw;clear hw
  by_cases hlt:j<l.length
  . obtain ⟨b,off,a1,k1,a2,k2,a3,k3,rfl,hx⟩:=HD.out.ac j hlt
    have hbl:b<wr.heap.size:=Nat.lt_of_lt_of_le hx.lt H1.out.below.size;have x0:=(H1.out.below.cell (p:=⟨b,off+j*7,none⟩) hx.lt).trans hx.c0;have x1:=(H1.out.below.cell (p:=⟨b,off+j*7+1,none⟩) hx.lt).trans hx.c1;have x2:=(H1.out.below.cell (p:=⟨b,off+j*7+2,none⟩) hx.lt).trans hx.c2;have x3:=(H1.out.below.cell (p:=⟨b,off+j*7+3,none⟩) hx.lt).trans hx.c3;have x4:=(H1.out.below.cell (p:=⟨b,off+j*7+4,none⟩) hx.lt).trans hx.c4;have x5:=(H1.out.below.cell (p:=⟨b,off+j*7+5,none⟩) hx.lt).trans hx.c5;have x6:=(H1.out.below.cell (p:=⟨b,off+j*7+6,none⟩) hx.lt).trans hx.c6;have HA:=hid (⟨hx.args',hx.body',hx.other'⟩:_/\_/\_);have HY:=hid (HN.out l[j] (List.getElem_mem hlt));have HT:=hid (fun h=>blkW_take (acW k) l s j hlt h);have HS:=hid (fun h=>blkW_stop (acW k) l s j h);have HR':=hid (HR.out (j+1))
    clear hx;generalize l[j]=x at *;have HB:=hid (H1.out.box (.cells #[.int .i64 x.op,.int .i64 x.n,.int .i64 x.m,.int .i64 x.at_,.slice a1 x.args.length k1,.slice a2 x.body.length k2,.slice a3 x.other.length k3] 109));go_wp2_with fail;refine (isFull_any HB.out).mono ?_
    cases hf:fullW (blkW (acW k) (l.take j) s) with
    | true=>
      rintro e w3 ⟨rfl,rfl⟩;have HS':=hid (HS.out hf);clear hf;go_wp2_with fail
      go_returns
      exact ⟨rfl,by rw [HS'.out];exact HB.out.tail⟩
    | false=>
      rintro e w3 ⟨rfl,rfl⟩;have HT':=hid (HT.out hf);rw [HT'.out] at HR';clear hf;go_wp2_with fail;refine (HY.out A a1 k1 a2 k2 a3 k3 K _ _ HA.out.1 HA.out.2.1 HA.out.2.2 HB.out.tail HR'.out).mono ?_;rintro e w4 ⟨rfl,h4⟩;have H4:=hid h4;clear h4;go_wp2_with fail;go_roundw
      case rel=>exact ⟨j+1,by omega,by go_num,by rw [HT'.out];exact H4.out⟩
      case measure=>simp [intOf];omega
  . obtain rfl:j=l.length:=by omega
    rw [List.take_length] at H1;go_wp2_with fail;go_end0;exact ⟨rfl,H1.out⟩
theorem wset0 {w0 w:World} {R k:Nat} {K:List (Nat × Obj)} {s:Wrt} {A:Nat->Prop} {op n m at_:Int} {args:List Nd} {body other:List Ac} {a1:Option Addr} {k1:Nat} {a2:Option Addr} {k2:Nat} {a3:Option Addr} {k3:Nat} (hN:∀ y ∈ args,NdC w0 R 6 y) (hD:DAt w0 A a1 args.length (ndsD args)) (h:Wri w0 w R K s) (hl:args.length=1) (hm:m = -1) (hr:(putW 3 at_ 0 (ndW 6 (argN args 0) s)).code.length<=1000000) :
 Calls Tryz.prog 214 #[.pointer (some ⟨R,0,none⟩),.agg #[.int .i64 op,.int .i64 n,.int .i64 m,.int .i64 at_,.slice a1 args.length k1,.slice a2 body.length k2,.slice a3 other.length k3]] w fun e w'=>e = .returned (.tuple #[])/\Wri w0 w' R K (putW 3 at_ 0 (ndW 6 (argN args 0) s)):=by
 subst hm;have HW:Hid (Wri w0 (w.alloc (.cells #[.int .i64 op,.int .i64 n,.int .i64 (-1),.int .i64 at_,.slice a1 args.length k1,.slice a2 body.length k2,.slice a3 other.length k3] 109)) R ((w.heap.size,(.cells #[.int .i64 op,.int .i64 n,.int .i64 (-1),.int .i64 at_,.slice a1 args.length k1,.slice a2 body.length k2,.slice a3 other.length k3] 109)) :: K) s):=h.box (.cells #[.int .i64 op,.int .i64 n,.int .i64 (-1),.int .i64 at_,.slice a1 args.length k1,.slice a2 body.length k2,.slice a3 other.length k3] 109)
 have hr0:(ndW 6 (argN args 0) s).code.length<=1000000:=by simp only [putW_len,fixW_len] at hr;omega
 obtain ⟨b,off,aa,ca,rfl,hA,hc⟩:=arg_at hD 0 (by omega);simp only [Nat.zero_mul,Nat.add_zero] at hc;have hy:=arg_mem hN 0 (by omega);generalize argN args 0=y at *;obtain ⟨z0,z1,z2,z3,z4⟩:=hc _ h.below
 have hb:b<w.heap.size:=by
  rcases Nat.lt_or_ge b w.heap.size with h' | h'
  . exact h'
  . simp [World.cell?,Array.getElem?_eq_none h'] at z0
 have hl0:0<args.length:=by omega
 have HC:=hid (hy A aa ca _ _ _ hA HW.out hr0);clear h hN hD hA hy hc hl;go_enter Tryz.func214,Tryz.ntmps214;go_wp2_with fail;refine (HC.out).mono ?_;rintro e w1 ⟨rfl,h1⟩;have H1:=hid h1;clear h1;obtain ⟨q0,q1,q2,q3,q4,q5,q6, -⟩:=cells7 H1.out.head;clear z0 z1 z2 z3 z4;go_wp2_with fail;refine (put_any 3 at_ 0 H1.out hr0).mono ?_;rintro e w2 ⟨rfl,h2⟩;have H2:=hid h2;clear h2;go_wp2_with fail
 go_returns
 exact ⟨rfl,H2.out.tail⟩
theorem wset1 {w0 w:World} {R k:Nat} {K:List (Nat × Obj)} {s:Wrt} {A:Nat->Prop} {op n m at_:Int} {args:List Nd} {body other:List Ac} {a1:Option Addr} {k1:Nat} {a2:Option Addr} {k2:Nat} {a3:Option Addr} {k3:Nat} (hN:∀ y ∈ args,NdC w0 R 6 y) (hD:DAt w0 A a1 args.length (ndsD args)) (h:Wri w0 w R K s) (hl:args.length=1) (hm:m≠-1) (hr:(fixW 3 m ⟨5,at_,0⟩ (ndW 6 (argN args 0) s)).code.length<=1000000) :
 Calls Tryz.prog 214 #[.pointer (some ⟨R,0,none⟩),.agg #[.int .i64 op,.int .i64 n,.int .i64 m,.int .i64 at_,.slice a1 args.length k1,.slice a2 body.length k2,.slice a3 other.length k3]] w fun e w'=>e = .returned (.tuple #[])/\Wri w0 w' R K (fixW 3 m ⟨5,at_,0⟩ (ndW 6 (argN args 0) s)):=by
 have HW:Hid (Wri w0 (w.alloc (.cells #[.int .i64 op,.int .i64 n,.int .i64 m,.int .i64 at_,.slice a1 args.length k1,.slice a2 body.length k2,.slice a3 other.length k3] 109)) R ((w.heap.size,(.cells #[.int .i64 op,.int .i64 n,.int .i64 m,.int .i64 at_,.slice a1 args.length k1,.slice a2 body.length k2,.slice a3 other.length k3] 109)) :: K) s):=h.box (.cells #[.int .i64 op,.int .i64 n,.int .i64 m,.int .i64 at_,.slice a1 args.length k1,.slice a2 body.length k2,.slice a3 other.length k3] 109)
 have hr0:(ndW 6 (argN args 0) s).code.length<=1000000:=by simp only [putW_len,fixW_len] at hr;omega
 obtain ⟨b,off,aa,ca,rfl,hA,hc⟩:=arg_at hD 0 (by omega);simp only [Nat.zero_mul,Nat.add_zero] at hc;have hy:=arg_mem hN 0 (by omega);generalize argN args 0=y at *;obtain ⟨z0,z1,z2,z3,z4⟩:=hc _ h.below
 have hb:b<w.heap.size:=by
  rcases Nat.lt_or_ge b w.heap.size with h' | h'
  . exact h'
  . simp [World.cell?,Array.getElem?_eq_none h'] at z0
 have hl0:0<args.length:=by omega
 have HC:=hid (hy A aa ca _ _ _ hA HW.out hr0);clear h hN hD hA hy hc hl;go_enter Tryz.func214,Tryz.ntmps214;go_wp2_with fail;refine (HC.out).mono ?_;rintro e w1 ⟨rfl,h1⟩;have H1:=hid h1;clear h1;obtain ⟨q0,q1,q2,q3,q4,q5,q6, -⟩:=cells7 H1.out.head;clear z0 z1 z2 z3 z4;go_wp2_with fail;refine (putFixed_any 3 m 5 at_ 0 H1.out hr0).mono ?_;rintro e w2 ⟨rfl,h2⟩;have H2:=hid h2;clear h2;go_wp2_with fail;go_end0;exact ⟨rfl,H2.out.tail⟩
theorem wbr0 {w0 w:World} {R k:Nat} {K:List (Nat × Obj)} {s:Wrt} {A:Nat->Prop} {op n m at_:Int} {args:List Nd} {body other:List Ac} {a1:Option Addr} {k1:Nat} {a2:Option Addr} {k2:Nat} {a3:Option Addr} {k3:Nat} (hN:∀ y ∈ args,NdC w0 R 6 y) (hD:DAt w0 A a1 args.length (ndsD args)) (h:Wri w0 w R K s) (hl:args.length=1) (hB:∀ y ∈ body,AcC w0 R k y) (dB:DAt w0 A a2 body.length (acsD body)) (hr:(landW (ndW 6 (argN args 0) s).code.length (blkW (acW k) body (jmpW 12 0 (ndW 6 (argN args 0) s)))).code.length<=1000000) :
 Calls Tryz.prog 218 #[.pointer (some ⟨R,0,none⟩),.agg #[.int .i64 op,.int .i64 n,.int .i64 m,.int .i64 at_,.slice a1 args.length k1,.slice a2 body.length k2,.slice a3 0 k3]] w fun e w'=>e = .returned (.tuple #[])/\Wri w0 w' R K (landW (ndW 6 (argN args 0) s).code.length (blkW (acW k) body (jmpW 12 0 (ndW 6 (argN args 0) s)))):=by
 have HW:Hid (Wri w0 (w.alloc (.cells #[.int .i64 op,.int .i64 n,.int .i64 m,.int .i64 at_,.slice a1 args.length k1,.slice a2 body.length k2,.slice a3 0 k3] 109)) R ((w.heap.size,(.cells #[.int .i64 op,.int .i64 n,.int .i64 m,.int .i64 at_,.slice a1 args.length k1,.slice a2 body.length k2,.slice a3 0 k3] 109)) :: K) s):=h.box (.cells #[.int .i64 op,.int .i64 n,.int .i64 m,.int .i64 at_,.slice a1 args.length k1,.slice a2 body.length k2,.slice a3 0 k3] 109);have m1:=blkW_mono (acW_mono k) body (jmpW 12 0 (ndW 6 (argN args 0) s));rw [jmpW_len] at m1
 have r1:(blkW (acW k) body (jmpW 12 0 (ndW 6 (argN args 0) s))).code.length<=1000000:=by simp only [landW_len] at hr;omega
 obtain ⟨b,off,aa,ca,rfl,hA,hc⟩:=arg_at hD 0 (by omega);simp only [Nat.zero_mul,Nat.add_zero] at hc;have hy:=arg_mem hN 0 (by omega);generalize argN args 0=y at *;obtain ⟨z0,z1,z2,z3,z4⟩:=hc _ h.below
 have hb:b<w.heap.size:=by
  rcases Nat.lt_or_ge b w.heap.size with h' | h'
  . exact h'
  . simp [World.cell?,Array.getElem?_eq_none h'] at z0
 have hl0:0<args.length:=by omega
 have HC:=hid (hy A aa ca _ _ _ hA HW.out (by omega));have HB:=hid (fun (K:List (Nat × Obj)) (s:Wrt) (w:World)=>wblock_any (w:=w) (K:=K) (s:=s) (cap:=k2) hB dB);clear h hN hD hA hy hc hl hB dB;go_enter Tryz.func218,Tryz.ntmps218;go_wp2_with fail;refine (HC.out).mono ?_;rintro e w1 ⟨rfl,h1⟩;have H1:=hid h1;clear h1;clear z0 z1 z2 z3 z4;go_wp2_with fail;refine (jump_any 12 H1.out (by omega)).mono ?_;rintro e w2 ⟨rfl,h2⟩;have H2:=hid h2;clear h2;obtain ⟨q0,q1,q2,q3,q4,q5,q6, -⟩:=cells7 (H2.out.has (List.mem_cons_of_mem _ (List.mem_cons_of_mem _ (List.mem_cons_self ..))));go_wp2_with fail;refine (HB.out _ _ _ H2.out r1).mono ?_;rintro e w3 ⟨rfl,h3⟩;have H3:=hid h3;clear h3;clear q0 q1 q2 q3 q4 q5 q6;obtain ⟨q0,q1,q2,q3,q4,q5,q6, -⟩:=cells7 (H3.out.has (List.mem_cons_of_mem _ (List.mem_cons_of_mem _ (List.mem_cons_self ..))))
 go_wp2_with (go_at_call 291;refine (land_any (b:=w1.heap.size) (k:=(ndW 6 y s).code.length) H3.out (by simp) (by simp) (by omega) r1).mono ?_;rintro e w4 ⟨rfl,h4⟩;have H4:=hid h4;clear h4)
 go_returns
 exact ⟨rfl,H4.out.tail.tail.tail⟩
theorem wbr1 {w0 w:World} {R k:Nat} {K:List (Nat × Obj)} {s:Wrt} {A:Nat->Prop} {op n m at_:Int} {args:List Nd} {body other:List Ac} {a1:Option Addr} {k1:Nat} {a2:Option Addr} {k2:Nat} {a3:Option Addr} {k3:Nat} (hN:∀ y ∈ args,NdC w0 R 6 y) (hD:DAt w0 A a1 args.length (ndsD args)) (h:Wri w0 w R K s) (hl:args.length=1) (hB:∀ y ∈ body,AcC w0 R k y) (dB:DAt w0 A a2 body.length (acsD body)) (hO:∀ y ∈ other,AcC w0 R k y) (dO:DAt w0 A a3 other.length (acsD other)) (hne:other.length≠0) (hr:(landW (blkW (acW k) body (jmpW 12 0 (ndW 6 (argN args 0) s))).code.length (blkW (acW k) other (landW (ndW 6 (argN args 0) s).code.length (jmpW 11 0 (blkW (acW k) body (jmpW 12 0 (ndW 6 (argN args 0) s))))))).code.length<=1000000) :
 Calls Tryz.prog 218 #[.pointer (some ⟨R,0,none⟩),.agg #[.int .i64 op,.int .i64 n,.int .i64 m,.int .i64 at_,.slice a1 args.length k1,.slice a2 body.length k2,.slice a3 other.length k3]] w fun e w'=>e = .returned (.tuple #[])/\Wri w0 w' R K (landW (blkW (acW k) body (jmpW 12 0 (ndW 6 (argN args 0) s))).code.length (blkW (acW k) other (landW (ndW 6 (argN args 0) s).code.length (jmpW 11 0 (blkW (acW k) body (jmpW 12 0 (ndW 6 (argN args 0) s))))))):=by
 have HW:Hid (Wri w0 (w.alloc (.cells #[.int .i64 op,.int .i64 n,.int .i64 m,.int .i64 at_,.slice a1 args.length k1,.slice a2 body.length k2,.slice a3 other.length k3] 109)) R ((w.heap.size,(.cells #[.int .i64 op,.int .i64 n,.int .i64 m,.int .i64 at_,.slice a1 args.length k1,.slice a2 body.length k2,.slice a3 other.length k3] 109)) :: K) s):=h.box (.cells #[.int .i64 op,.int .i64 n,.int .i64 m,.int .i64 at_,.slice a1 args.length k1,.slice a2 body.length k2,.slice a3 other.length k3] 109);have m1:=blkW_mono (acW_mono k) body (jmpW 12 0 (ndW 6 (argN args 0) s));have m2:=blkW_mono (acW_mono k) other (landW (ndW 6 (argN args 0) s).code.length (jmpW 11 0 (blkW (acW k) body (jmpW 12 0 (ndW 6 (argN args 0) s)))));rw [jmpW_len] at m1;rw [landW_len,jmpW_len] at m2
 have r2:(blkW (acW k) other (landW (ndW 6 (argN args 0) s).code.length (jmpW 11 0 (blkW (acW k) body (jmpW 12 0 (ndW 6 (argN args 0) s)))))).code.length<=1000000:=by simp only [landW_len] at hr;omega
 have r1:(blkW (acW k) body (jmpW 12 0 (ndW 6 (argN args 0) s))).code.length+1<=1000000:=by omega
 obtain ⟨b,off,aa,ca,rfl,hA,hc⟩:=arg_at hD 0 (by omega);simp only [Nat.zero_mul,Nat.add_zero] at hc;have hy:=arg_mem hN 0 (by omega);generalize argN args 0=y at *;obtain ⟨z0,z1,z2,z3,z4⟩:=hc _ h.below
 have hb:b<w.heap.size:=by
  rcases Nat.lt_or_ge b w.heap.size with h' | h'
  . exact h'
  . simp [World.cell?,Array.getElem?_eq_none h'] at z0
 have hl0:0<args.length:=by omega
 have hbo:=dO.bound;have HC:=hid (hy A aa ca _ _ _ hA HW.out (by omega));have HB:=hid (fun (K:List (Nat × Obj)) (s:Wrt) (w:World)=>wblock_any (w:=w) (K:=K) (s:=s) (cap:=k2) hB dB);have HO:=hid (fun (K:List (Nat × Obj)) (s:Wrt) (w:World)=>wblock_any (w:=w) (K:=K) (s:=s) (cap:=k3) hO dO);clear h hN hD hA hy hc hl hB dB hO dO;go_enter Tryz.func218,Tryz.ntmps218;go_wp2_with fail;refine (HC.out).mono ?_;rintro e w1 ⟨rfl,h1⟩;have H1:=hid h1;clear h1;clear z0 z1 z2 z3 z4;go_wp2_with fail;refine (jump_any 12 H1.out (by omega)).mono ?_;rintro e w2 ⟨rfl,h2⟩;have H2:=hid h2;clear h2;obtain ⟨q0,q1,q2,q3,q4,q5,q6, -⟩:=cells7 (H2.out.has (List.mem_cons_of_mem _ (List.mem_cons_of_mem _ (List.mem_cons_self ..))));go_wp2_with fail;refine (HB.out _ _ _ H2.out (by omega)).mono ?_;rintro e w3 ⟨rfl,h3⟩;have H3:=hid h3;clear h3;clear q0 q1 q2 q3 q4 q5 q6
 obtain ⟨q0,q1,q2,q3,q4,q5,q6, -⟩:=cells7 (H3.out.has (List.mem_cons_of_mem _ (List.mem_cons_of_mem _ (List.mem_cons_self ..))));go_wp2_with fail;refine (jump_any 11 H3.out (by omega)).mono ?_;rintro e w4 ⟨rfl,h4⟩;have H4:=hid h4;clear h4;clear q0 q1 q2 q3 q4 q5 q6
 go_wp2_with (go_at_call 291;refine (land_any (b:=w1.heap.size) (k:=(ndW 6 y s).code.length) H4.out (by simp) (by simp) (by simp only [landW_len,jmpW_len,putW_len,fixW_len];omega) (by simp only [landW_len,jmpW_len,putW_len,fixW_len];omega)).mono ?_;rintro e w5 ⟨rfl,h5⟩;have H5:=hid h5;clear h5;obtain ⟨q0,q1,q2,q3,q4,q5,q6, -⟩:=cells7 (H5.out.has (List.mem_cons_of_mem _ (List.mem_cons_of_mem _ (List.mem_cons_of_mem _ (List.mem_cons_of_mem _ (List.mem_cons_self ..)))))))
 refine (HO.out _ _ _ H5.out r2).mono ?_;rintro e w6 ⟨rfl,h6⟩;have H6:=hid h6;clear h6;clear q0 q1 q2 q3 q4 q5 q6
 go_wp2_with (go_at_call 291;refine (land_any (b:=w3.heap.size) (k:=(blkW (acW k) body (jmpW 12 0 (ndW 6 y s))).code.length) H6.out (by simp) (by simp) (by omega) r2).mono ?_;rintro e w7 ⟨rfl,h7⟩;have H7:=hid h7;clear h7)
 go_end0;exact ⟨rfl,H7.out.tail.tail.tail.tail.tail⟩
theorem wwh {w0 w:World} {R k:Nat} {K:List (Nat × Obj)} {s:Wrt} {A:Nat->Prop} {op n m at_:Int} {args:List Nd} {body other:List Ac} {a1:Option Addr} {k1:Nat} {a2:Option Addr} {k2:Nat} {a3:Option Addr} {k3:Nat} (hN:∀ y ∈ args,NdC w0 R 6 y) (hD:DAt w0 A a1 args.length (ndsD args)) (h:Wri w0 w R K s) (hl:args.length=1) (hB:∀ y ∈ body,AcC w0 R k y) (dB:DAt w0 A a2 body.length (acsD body)) (hr:(landW (ndW 6 (argN args 0) s).code.length (jmpW 11 s.code.length (blkW (acW k) body (putW 16 0 0 (jmpW 12 0 (ndW 6 (argN args 0) s)))))).code.length<=1000000) :
 Calls Tryz.prog 219 #[.pointer (some ⟨R,0,none⟩),.agg #[.int .i64 op,.int .i64 n,.int .i64 m,.int .i64 at_,.slice a1 args.length k1,.slice a2 body.length k2,.slice a3 other.length k3]] w fun e w'=>e = .returned (.tuple #[])/\Wri w0 w' R K (landW (ndW 6 (argN args 0) s).code.length (jmpW 11 s.code.length (blkW (acW k) body (putW 16 0 0 (jmpW 12 0 (ndW 6 (argN args 0) s)))))):=by
 have HW:Hid (Wri w0 (w.alloc (.cells #[.int .i64 op,.int .i64 n,.int .i64 m,.int .i64 at_,.slice a1 args.length k1,.slice a2 body.length k2,.slice a3 other.length k3] 109)) R ((w.heap.size,(.cells #[.int .i64 op,.int .i64 n,.int .i64 m,.int .i64 at_,.slice a1 args.length k1,.slice a2 body.length k2,.slice a3 other.length k3] 109)) :: K) s):=h.box (.cells #[.int .i64 op,.int .i64 n,.int .i64 m,.int .i64 at_,.slice a1 args.length k1,.slice a2 body.length k2,.slice a3 other.length k3] 109);have m0:=ndW_mono 6 (argN args 0) s;have m1:=blkW_mono (acW_mono k) body (putW 16 0 0 (jmpW 12 0 (ndW 6 (argN args 0) s)));rw [putW_len,jmpW_len] at m1
 have r1:(blkW (acW k) body (putW 16 0 0 (jmpW 12 0 (ndW 6 (argN args 0) s)))).code.length+1<=1000000:=by simp only [landW_len,jmpW_len] at hr;omega
 obtain ⟨b,off,aa,ca,rfl,hA,hc⟩:=arg_at hD 0 (by omega);simp only [Nat.zero_mul,Nat.add_zero] at hc;have hy:=arg_mem hN 0 (by omega);generalize argN args 0=y at *;obtain ⟨z0,z1,z2,z3,z4⟩:=hc _ h.below
 have hb:b<w.heap.size:=by
  rcases Nat.lt_or_ge b w.heap.size with h' | h'
  . exact h'
  . simp [World.cell?,Array.getElem?_eq_none h'] at z0
 have hl0:0<args.length:=by omega
 have HE:=hid (here_any HW.out);have HC:=hid (hy A aa ca _ _ _ hA HW.out (by omega));have HB:=hid (fun (K:List (Nat × Obj)) (s:Wrt) (w:World)=>wblock_any (w:=w) (K:=K) (s:=s) (cap:=k2) hB dB);clear h hN hD hA hy hc hl hB dB;go_enter Tryz.func219,Tryz.ntmps219;go_wp2_with fail;refine HE.out.mono ?_;rintro e w9 ⟨rfl,rfl⟩;go_wp2_with fail;refine (HC.out).mono ?_;rintro e w1 ⟨rfl,h1⟩;have H1:=hid h1;clear h1;clear z0 z1 z2 z3 z4;go_wp2_with fail;refine (jump_any 12 H1.out (by omega)).mono ?_;rintro e w2 ⟨rfl,h2⟩;have H2:=hid h2;clear h2;go_wp2_with fail;refine (put_any 16 0 0 H2.out (by simp only [landW_len,jmpW_len,putW_len,fixW_len];omega)).mono ?_;rintro e w3 ⟨rfl,h3⟩;have H3:=hid h3;clear h3;obtain ⟨q0,q1,q2,q3,q4,q5,q6, -⟩:=cells7 (H3.out.has (List.mem_cons_of_mem _ (List.mem_cons_of_mem _ (List.mem_cons_self ..))));go_wp2_with fail
 refine (HB.out _ _ _ H3.out (by omega)).mono ?_;rintro e w4 ⟨rfl,h4⟩;have H4:=hid h4;clear h4;clear q0 q1 q2 q3 q4 q5 q6;go_wp2_with fail;refine (jumpTo_any 11 s.code.length H4.out (by omega)).mono ?_;rintro e w5 ⟨rfl,h5⟩;have H5:=hid h5;clear h5
 go_wp2_with (go_at_call 291;refine (land_any (b:=w1.heap.size) (k:=(ndW 6 y s).code.length) H5.out (by simp) (by simp) (by simp only [landW_len,jmpW_len,putW_len,fixW_len];omega) (by simp only [landW_len,jmpW_len,putW_len,fixW_len];omega)).mono ?_;rintro e w6 ⟨rfl,h6⟩;have H6:=hid h6;clear h6)
 go_end0;exact ⟨rfl,H6.out.tail.tail.tail⟩
end Go.Proofs.YtndkhgakfodldaaGreatDoor

namespace Go.Proofs.YtndkhgakfodldaaGreatDoor
set_option maxRecDepth 100000
set_option maxHeartbeats 1600000
open Go.RowKit Go.Maps Go.WideMaps
set_option linter.unusedSimpArgs false
set_option linter.unusedVariables false
theorem wact1 {w0 w:World} {R:Nat} {K:List (Nat × Obj)} {n m at_:Int} {args:List Nd} {body other:List Ac} {a1:Option Addr} {k1:Nat} {a2:Option Addr} {k2:Nat} {a3:Option Addr} {k3:Nat} {s':Wrt} (HC:Hid (Calls Tryz.prog 214 #[.pointer (some ⟨R,0,none⟩),.agg #[.int .i64 1,.int .i64 n,.int .i64 m,.int .i64 at_,.slice a1 args.length k1,.slice a2 body.length k2,.slice a3 other.length k3]] (w.alloc (.cells #[.int .i64 1,.int .i64 n,.int .i64 m,.int .i64 at_,.slice a1 args.length k1,.slice a2 body.length k2,.slice a3 other.length k3] 109)) fun e w'=>e = .returned (.tuple #[])/\Wri w0 w' R ((w.heap.size,(.cells #[.int .i64 1,.int .i64 n,.int .i64 m,.int .i64 at_,.slice a1 args.length k1,.slice a2 body.length k2,.slice a3 other.length k3] 109)) :: K) s')) :
 Calls Tryz.prog 172 #[.pointer (some ⟨R,0,none⟩),.agg #[.int .i64 1,.int .i64 n,.int .i64 m,.int .i64 at_,.slice a1 args.length k1,.slice a2 body.length k2,.slice a3 other.length k3]] w fun e w'=>e = .returned (.tuple #[])/\Wri w0 w' R K s':=by
 go_enter Tryz.func172,Tryz.ntmps172;go_wp2_with fail;refine (HC.out).mono ?_;rintro e w1 ⟨rfl,h1⟩;have H1:=hid h1;clear h1;go_wp2_with fail;go_end0;exact ⟨rfl,H1.out.tail⟩
theorem wact4 {w0 w:World} {R:Nat} {K:List (Nat × Obj)} {n m at_:Int} {args:List Nd} {body other:List Ac} {a1:Option Addr} {k1:Nat} {a2:Option Addr} {k2:Nat} {a3:Option Addr} {k3:Nat} {s':Wrt} (HC:Hid (Calls Tryz.prog 218 #[.pointer (some ⟨R,0,none⟩),.agg #[.int .i64 4,.int .i64 n,.int .i64 m,.int .i64 at_,.slice a1 args.length k1,.slice a2 body.length k2,.slice a3 other.length k3]] (w.alloc (.cells #[.int .i64 4,.int .i64 n,.int .i64 m,.int .i64 at_,.slice a1 args.length k1,.slice a2 body.length k2,.slice a3 other.length k3] 109)) fun e w'=>e = .returned (.tuple #[])/\Wri w0 w' R ((w.heap.size,(.cells #[.int .i64 4,.int .i64 n,.int .i64 m,.int .i64 at_,.slice a1 args.length k1,.slice a2 body.length k2,.slice a3 other.length k3] 109)) :: K) s')) :
 Calls Tryz.prog 172 #[.pointer (some ⟨R,0,none⟩),.agg #[.int .i64 4,.int .i64 n,.int .i64 m,.int .i64 at_,.slice a1 args.length k1,.slice a2 body.length k2,.slice a3 other.length k3]] w fun e w'=>e = .returned (.tuple #[])/\Wri w0 w' R K s':=by
 go_enter Tryz.func172,Tryz.ntmps172;go_wp2_with fail;refine (HC.out).mono ?_;rintro e w1 ⟨rfl,h1⟩;have H1:=hid h1;clear h1;go_wp2_with fail;go_end0;exact ⟨rfl,H1.out.tail⟩
theorem wact5 {w0 w:World} {R:Nat} {K:List (Nat × Obj)} {n m at_:Int} {args:List Nd} {body other:List Ac} {a1:Option Addr} {k1:Nat} {a2:Option Addr} {k2:Nat} {a3:Option Addr} {k3:Nat} {s':Wrt} (HC:Hid (Calls Tryz.prog 219 #[.pointer (some ⟨R,0,none⟩),.agg #[.int .i64 5,.int .i64 n,.int .i64 m,.int .i64 at_,.slice a1 args.length k1,.slice a2 body.length k2,.slice a3 other.length k3]] (w.alloc (.cells #[.int .i64 5,.int .i64 n,.int .i64 m,.int .i64 at_,.slice a1 args.length k1,.slice a2 body.length k2,.slice a3 other.length k3] 109)) fun e w'=>e = .returned (.tuple #[])/\Wri w0 w' R ((w.heap.size,(.cells #[.int .i64 5,.int .i64 n,.int .i64 m,.int .i64 at_,.slice a1 args.length k1,.slice a2 body.length k2,.slice a3 other.length k3] 109)) :: K) s')) :
 Calls Tryz.prog 172 #[.pointer (some ⟨R,0,none⟩),.agg #[.int .i64 5,.int .i64 n,.int .i64 m,.int .i64 at_,.slice a1 args.length k1,.slice a2 body.length k2,.slice a3 other.length k3]] w fun e w'=>e = .returned (.tuple #[])/\Wri w0 w' R K s':=by
 go_enter Tryz.func172,Tryz.ntmps172;go_wp2_with fail;refine (HC.out).mono ?_;rintro e w1 ⟨rfl,h1⟩;have H1:=hid h1;clear h1;go_wp2_with fail;go_end0;exact ⟨rfl,H1.out.tail⟩
theorem wact6 {w0 w:World} {R k:Nat} {K:List (Nat × Obj)} {s:Wrt} {A:Nat->Prop} {n m at_:Int} {args:List Nd} {body other:List Ac} {a1:Option Addr} {k1:Nat} {a2:Option Addr} {k2:Nat} {a3:Option Addr} {k3:Nat} (hN:∀ y ∈ args,NdC w0 R 6 y) (hD:DAt w0 A a1 args.length (ndsD args)) (h:Wri w0 w R K s) (hl:args.length=1) (hr:(putW 15 0 0 (ndW 6 (argN args 0) s)).code.length<=1000000) :
 Calls Tryz.prog 172 #[.pointer (some ⟨R,0,none⟩),.agg #[.int .i64 6,.int .i64 n,.int .i64 m,.int .i64 at_,.slice a1 args.length k1,.slice a2 body.length k2,.slice a3 other.length k3]] w fun e w'=>e = .returned (.tuple #[])/\Wri w0 w' R K (putW 15 0 0 (ndW 6 (argN args 0) s)):=by
 have HW:Hid (Wri w0 (w.alloc (.cells #[.int .i64 6,.int .i64 n,.int .i64 m,.int .i64 at_,.slice a1 args.length k1,.slice a2 body.length k2,.slice a3 other.length k3] 109)) R ((w.heap.size,(.cells #[.int .i64 6,.int .i64 n,.int .i64 m,.int .i64 at_,.slice a1 args.length k1,.slice a2 body.length k2,.slice a3 other.length k3] 109)) :: K) s):=h.box (.cells #[.int .i64 6,.int .i64 n,.int .i64 m,.int .i64 at_,.slice a1 args.length k1,.slice a2 body.length k2,.slice a3 other.length k3] 109)
 have hr0:(ndW 6 (argN args 0) s).code.length<=1000000:=by simp only [putW_len] at hr;omega
 obtain ⟨b,off,aa,ca,rfl,hA,hc⟩:=arg_at hD 0 (by omega);simp only [Nat.zero_mul,Nat.add_zero] at hc;have hy:=arg_mem hN 0 (by omega);generalize argN args 0=y at *;obtain ⟨z0,z1,z2,z3,z4⟩:=hc _ h.below
 have hb:b<w.heap.size:=by
  rcases Nat.lt_or_ge b w.heap.size with h' | h'
  . exact h'
  . simp [World.cell?,Array.getElem?_eq_none h'] at z0
 have hl0:0<args.length:=by omega
 have HC:=hid (hy A aa ca _ _ _ hA HW.out hr0);clear h hN hD hA hy hc hl;go_enter Tryz.func172,Tryz.ntmps172;go_wp2_with fail;refine (HC.out).mono ?_;rintro e w1 ⟨rfl,h1⟩;have H1:=hid h1;clear h1;clear z0 z1 z2 z3 z4;go_wp2_with fail;refine (put_any 15 0 0 H1.out hr0).mono ?_;rintro e w2 ⟨rfl,h2⟩;have H2:=hid h2;clear h2;go_wp2_with fail;go_end0;exact ⟨rfl,H2.out.tail⟩
theorem wact7 {w0 w:World} {R k:Nat} {K:List (Nat × Obj)} {s:Wrt} {A:Nat->Prop} {n m at_:Int} {args:List Nd} {body other:List Ac} {a1:Option Addr} {k1:Nat} {a2:Option Addr} {k2:Nat} {a3:Option Addr} {k3:Nat} (hN:∀ y ∈ args,NdC w0 R 6 y) (hD:DAt w0 A a1 args.length (ndsD args)) (h:Wri w0 w R K s) (hl:args.length=1) (hr:(putW 19 0 0 (ndW 6 (argN args 0) s)).code.length<=1000000) :
 Calls Tryz.prog 172 #[.pointer (some ⟨R,0,none⟩),.agg #[.int .i64 7,.int .i64 n,.int .i64 m,.int .i64 at_,.slice a1 args.length k1,.slice a2 body.length k2,.slice a3 other.length k3]] w fun e w'=>e = .returned (.tuple #[])/\Wri w0 w' R K (putW 19 0 0 (ndW 6 (argN args 0) s)):=by
 have HW:Hid (Wri w0 (w.alloc (.cells #[.int .i64 7,.int .i64 n,.int .i64 m,.int .i64 at_,.slice a1 args.length k1,.slice a2 body.length k2,.slice a3 other.length k3] 109)) R ((w.heap.size,(.cells #[.int .i64 7,.int .i64 n,.int .i64 m,.int .i64 at_,.slice a1 args.length k1,.slice a2 body.length k2,.slice a3 other.length k3] 109)) :: K) s):=h.box (.cells #[.int .i64 7,.int .i64 n,.int .i64 m,.int .i64 at_,.slice a1 args.length k1,.slice a2 body.length k2,.slice a3 other.length k3] 109)
 have hr0:(ndW 6 (argN args 0) s).code.length<=1000000:=by simp only [putW_len] at hr;omega
 obtain ⟨b,off,aa,ca,rfl,hA,hc⟩:=arg_at hD 0 (by omega);simp only [Nat.zero_mul,Nat.add_zero] at hc;have hy:=arg_mem hN 0 (by omega);generalize argN args 0=y at *;obtain ⟨z0,z1,z2,z3,z4⟩:=hc _ h.below
 have hb:b<w.heap.size:=by
  rcases Nat.lt_or_ge b w.heap.size with h' | h'
  . exact h'
  . simp [World.cell?,Array.getElem?_eq_none h'] at z0
 have hl0:0<args.length:=by omega
 have HC:=hid (hy A aa ca _ _ _ hA HW.out hr0);clear h hN hD hA hy hc hl;go_enter Tryz.func172,Tryz.ntmps172;go_wp2_with fail;refine (HC.out).mono ?_;rintro e w1 ⟨rfl,h1⟩;have H1:=hid h1;clear h1;clear z0 z1 z2 z3 z4;go_wp2_with fail;refine (put_any 19 0 0 H1.out hr0).mono ?_;rintro e w2 ⟨rfl,h2⟩;have H2:=hid h2;clear h2;go_wp2_with fail;go_end0;exact ⟨rfl,H2.out.tail⟩
theorem wact3 {w0 w:World} {R k:Nat} {K:List (Nat × Obj)} {s:Wrt} {A:Nat->Prop} {n m at_:Int} {args:List Nd} {body other:List Ac} {a1:Option Addr} {k1:Nat} {a2:Option Addr} {k2:Nat} {a3:Option Addr} {k3:Nat} (hN:∀ y ∈ args,NdC w0 R 6 y) (hD:DAt w0 A a1 args.length (ndsD args)) (h:Wri w0 w R K s) (hr:(putW 17 0 0 (callW (ndsW (ndW 6) args) m at_ s)).code.length<=1000000) :
 Calls Tryz.prog 172 #[.pointer (some ⟨R,0,none⟩),.agg #[.int .i64 3,.int .i64 n,.int .i64 m,.int .i64 at_,.slice a1 args.length k1,.slice a2 body.length k2,.slice a3 other.length k3]] w fun e w'=>e = .returned (.tuple #[])/\Wri w0 w' R K (putW 17 0 0 (callW (ndsW (ndW 6) args) m at_ s)):=by
 have HW:Hid (Wri w0 (w.alloc (.cells #[.int .i64 3,.int .i64 n,.int .i64 m,.int .i64 at_,.slice a1 args.length k1,.slice a2 body.length k2,.slice a3 other.length k3] 109)) R ((w.heap.size,(.cells #[.int .i64 3,.int .i64 n,.int .i64 m,.int .i64 at_,.slice a1 args.length k1,.slice a2 body.length k2,.slice a3 other.length k3] 109)) :: K) s):=h.box (.cells #[.int .i64 3,.int .i64 n,.int .i64 m,.int .i64 at_,.slice a1 args.length k1,.slice a2 body.length k2,.slice a3 other.length k3] 109)
 have hr0:(ndsW (ndW 6) args s).code.length+1<=1000000:=by simp only [putW_len,callW,fixW_len] at hr;omega
 have HC:=hid (wcall_any (cap:=k1) m at_ hN hD HW.out (by omega));clear h hN hD;go_enter Tryz.func172,Tryz.ntmps172;go_wp2_with fail;refine (HC.out).mono ?_;rintro e w1 ⟨rfl,h1⟩;have H1:=hid h1;clear h1;go_wp2_with fail;refine (put_any 17 0 0 H1.out (by simp only [callW,fixW_len];omega)).mono ?_;rintro e w2 ⟨rfl,h2⟩;have H2:=hid h2;clear h2;go_wp2_with fail;go_end0;exact ⟨rfl,H2.out.tail⟩
theorem wact2 {w0 w:World} {R k:Nat} {K:List (Nat × Obj)} {s:Wrt} {A:Nat->Prop} {n m at_:Int} {args:List Nd} {body other:List Ac} {a1:Option Addr} {k1:Nat} {a2:Option Addr} {k2:Nat} {a3:Option Addr} {k3:Nat} (hN:∀ y ∈ args,NdC w0 R 6 y) (hD:DAt w0 A a1 args.length (ndsD args)) (h:Wri w0 w R K s) (hl:args.length=2) (hr:(putW 8 0 0 (ndW 6 (argN args 1) (idxW (ndW 6 (argN args 0)) n m at_ s))).code.length<=1000000) :
 Calls Tryz.prog 172 #[.pointer (some ⟨R,0,none⟩),.agg #[.int .i64 2,.int .i64 n,.int .i64 m,.int .i64 at_,.slice a1 args.length k1,.slice a2 body.length k2,.slice a3 other.length k3]] w fun e w'=>e = .returned (.tuple #[])/\Wri w0 w' R K (putW 8 0 0 (ndW 6 (argN args 1) (idxW (ndW 6 (argN args 0)) n m at_ s))):=by
 have HW:Hid (Wri w0 (w.alloc (.cells #[.int .i64 2,.int .i64 n,.int .i64 m,.int .i64 at_,.slice a1 args.length k1,.slice a2 body.length k2,.slice a3 other.length k3] 109)) R ((w.heap.size,(.cells #[.int .i64 2,.int .i64 n,.int .i64 m,.int .i64 at_,.slice a1 args.length k1,.slice a2 body.length k2,.slice a3 other.length k3] 109)) :: K) s):=h.box (.cells #[.int .i64 2,.int .i64 n,.int .i64 m,.int .i64 at_,.slice a1 args.length k1,.slice a2 body.length k2,.slice a3 other.length k3] 109);have m1:=ndW_mono 6 (argN args 1) (idxW (ndW 6 (argN args 0)) n m at_ s)
 have r1:(ndW 6 (argN args 1) (idxW (ndW 6 (argN args 0)) n m at_ s)).code.length<=1000000:=by simp only [putW_len] at hr;omega
 have r0:(ndW 6 (argN args 0) s).code.length<=1000000:=by simp only [idxW,fixW_len] at m1 r1;omega
 obtain ⟨b,off,aa,ca,rfl,hA,hc⟩:=arg_at hD 0 (by omega);obtain ⟨b',off',ab,cb,hbb,hB,hd⟩:=arg_at hD 1 (by omega);cases hbb;simp only [Nat.zero_mul,Nat.add_zero] at hc;simp only [Nat.one_mul] at hd;have hy:=arg_mem hN 0 (by omega);have hz:=arg_mem hN 1 (by omega);generalize argN args 0=y at *;generalize argN args 1=z at *;have HC:=hid (windex_any (cp:=ca) n m at_ hy hA HW.out.drew r0);have HZ:=hid (fun (W:World) (h:Wri w0 W R ((w.heap.size,(.cells #[.int .i64 2,.int .i64 n,.int .i64 m,.int .i64 at_,.slice (some ⟨b,off,none⟩) args.length k1,.slice a2 body.length k2,.slice a3 other.length k3] 109)) :: K) (idxW (ndW 6 y) n m at_ s))=>hz A ab cb _ _ W hB h r1)
 have HS:Hid (∀ W s',Wri w0 W R ((w.heap.size,(.cells #[.int .i64 2,.int .i64 n,.int .i64 m,.int .i64 at_,.slice (some ⟨b,off,none⟩) args.length k1,.slice a2 body.length k2,.slice a3 other.length k3] 109)) :: K) s'->W.cell? ⟨w.heap.size,1,none⟩=some (.int .i64 n)/\W.cell? ⟨w.heap.size,2,none⟩=some (.int .i64 m)/\W.cell? ⟨w.heap.size,3,none⟩=some (.int .i64 at_)/\W.cell? ⟨w.heap.size,4,none⟩=some (.slice (some ⟨b,off,none⟩) args.length k1)/\W.cell? ⟨b,off,none⟩=some (.int .i64 y.op)/\W.cell? ⟨b,off+1,none⟩=some (.int .i64 y.n)/\W.cell? ⟨b,off+2,none⟩=some (.int .i64 y.m)/\W.cell? ⟨b,off+3,none⟩=some (.int .i64 y.at_)/\W.cell? ⟨b,off+4,none⟩=some (.slice aa y.args.length ca)):=fun W s' hW=>by
  obtain ⟨q0,q1,q2,q3,q4,q5,q6, -⟩:=cells7 hW.head;obtain ⟨z0,z1,z2,z3,z4⟩:=hc W hW.below;exact ⟨q1,q2,q3,q4,z0,z1,z2,z3,z4⟩
 have HS2:Hid (∀ W s',Wri w0 W R ((w.heap.size,(.cells #[.int .i64 2,.int .i64 n,.int .i64 m,.int .i64 at_,.slice (some ⟨b,off,none⟩) args.length k1,.slice a2 body.length k2,.slice a3 other.length k3] 109)) :: K) s'->W.cell? ⟨w.heap.size,4,none⟩=some (.slice (some ⟨b,off,none⟩) args.length k1)/\W.cell? ⟨b,off+5,none⟩=some (.int .i64 z.op)/\W.cell? ⟨b,off+5+1,none⟩=some (.int .i64 z.n)/\W.cell? ⟨b,off+5+2,none⟩=some (.int .i64 z.m)/\W.cell? ⟨b,off+5+3,none⟩=some (.int .i64 z.at_)/\W.cell? ⟨b,off+5+4,none⟩=some (.slice ab z.args.length cb)):=fun W s' hW=>by
  obtain ⟨q0,q1,q2,q3,q4,q5,q6, -⟩:=cells7 hW.head;obtain ⟨z0,z1,z2,z3,z4⟩:=hd W hW.below;exact ⟨q4,z0,z1,z2,z3,z4⟩
 have HD:=hid HW.out.drew
 have hl0:1<args.length:=by omega
 clear h hN hD hA hB hy hz hc hd hl;go_enter Tryz.func172,Tryz.ntmps172;go_upto_region 5 with fail
 go_region_held (fun W=>W.cell? ⟨w.heap.size,1,none⟩=some (.int .i64 n)/\W.cell? ⟨w.heap.size,2,none⟩=some (.int .i64 m)/\W.cell? ⟨w.heap.size,3,none⟩=some (.int .i64 at_)/\W.cell? ⟨w.heap.size,4,none⟩=some (.slice (some ⟨b,off,none⟩) args.length k1)/\W.cell? ⟨b,off,none⟩=some (.int .i64 y.op)/\W.cell? ⟨b,off+1,none⟩=some (.int .i64 y.n)/\W.cell? ⟨b,off+2,none⟩=some (.int .i64 y.m)/\W.cell? ⟨b,off+3,none⟩=some (.int .i64 y.at_)/\W.cell? ⟨b,off+4,none⟩=some (.slice aa y.args.length ca)) (first | with_reducible exact HS.out _ _ HW.out | with_reducible exact HS.out _ _ HD.out | with_reducible exact HS.out _ _ H1.out)
  (first
    | (go_at_call 215;refine HC.out.mono ?_;rintro e w1 ⟨rfl,h1⟩;have H1:=hid h1;clear h1))
 all_goals
  obtain ⟨q4,z0,z1,z2,z3,z4⟩:=HS2.out _ _ H1.out;go_wp2_with fail;refine (HZ.out _ H1.out).mono ?_;rintro e w2 ⟨rfl,h2⟩;have H2:=hid h2;clear h2 q4 z0 z1 z2 z3 z4;go_wp2_with fail;refine (put_any 8 0 0 H2.out r1).mono ?_;rintro e w3 ⟨rfl,h3⟩;have H3:=hid h3;clear h3;go_wp2_with fail;go_end0;exact ⟨rfl,H3.out.tail⟩
def acStep (f:Ac->Wrt->Wrt) (op n m at_:Int) (args:List Nd) (body other:List Ac) (s:Wrt):Wrt:=
 if op=1 then setW (ndW 6 (argN args 0)) m at_ s
 else if op=2 then putW 8 0 0 (ndW 6 (argN args 1) (idxW (ndW 6 (argN args 0)) n m at_ s))
 else if op=3 then putW 17 0 0 (callW (ndsW (ndW 6) args) m at_ s)
 else if op=4 then brW (ndW 6 (argN args 0)) (blkW f body) (blkW f other) other.isEmpty s
 else if op=5 then whW (ndW 6 (argN args 0)) (blkW f body) s
 else if op=6 then putW 15 0 0 (ndW 6 (argN args 0) s)
 else if op=7 then putW 19 0 0 (ndW 6 (argN args 0) s)
 else s
theorem acW_succ (k:Nat) (op n m at_:Int) (args:List Nd) (body other:List Ac) (s:Wrt):acW (k+1) ⟨op,n,m,at_,args,body,other⟩ s=acStep (acW k) op n m at_ args body other s:=rfl
theorem actA_args {c:Ck} {op n m at_:Int} {args:List Nd} {body other:List Ac} (h:actA c ⟨op,n,m,at_,args,body,other⟩=true):(1<=op/\op<=7)/\(op=2->args.length=2)/\(op≠2->op≠3->args.length=1):=by
 unfold actA at h
 by_cases e1:op=1
 . subst e1
   simp [Ac.op,Ac.args] at h;exact ⟨by decide,fun h=>absurd h (by decide),fun _ _=>of_decide_eq_true h.1⟩
 by_cases e2:op=2
 . subst e2
   simp [Ac.op,Ac.args] at h;exact ⟨by decide,fun _=>of_decide_eq_true h.1,fun h=>absurd rfl h⟩
 by_cases e3:op=3
 . subst e3
   exact ⟨by decide,fun h=>absurd h (by decide),fun _ h=>absurd rfl h⟩
 by_cases e4:4<=op/\op<=7
 . simp [Ac.op,Ac.args,e1,e2,e3,e4] at h
   exact ⟨by omega,fun h=>absurd h e2,fun _ _=>of_decide_eq_true h.1⟩
 . simp [Ac.op,Ac.args,e1,e2,e3,e4] at h
theorem wact_of {w0:World} {R k:Nat} {c:Ck} {x:Ac} (hx:actA c x=true) (hN:∀ y ∈ x.args,NdC w0 R 6 y) (hB:∀ y ∈ x.body,AcC w0 R k y) (hO:∀ y ∈ x.other,AcC w0 R k y):AcC w0 R (k+1) x:=by
 obtain ⟨op,n,m,at_,args,body,other⟩:=x;intro A a1 k1 a2 k2 a3 k3 K s w hD dB dO h hr;obtain ⟨⟨o1,o7⟩,l2,l1⟩:=actA_args hx;rw [acW_succ] at hr ⊢;unfold acStep at hr ⊢;simp only [Ac.op,Ac.n,Ac.m,Ac.at_,Ac.args,Ac.body,Ac.other] at hD dB dO hN hB hO ⊢
 by_cases e1:op=1
 . rw [if_pos e1] at hr ⊢
   subst e1;unfold setW at hr ⊢;refine wact1 ?_
   by_cases hm:m = -1
   . rw [if_pos hm] at hr ⊢;exact wset0 (k:=0) hN hD (h.box _) (l1 (by decide) (by decide)) hm hr
   . rw [if_neg hm] at hr ⊢;exact wset1 (k:=0) hN hD (h.box _) (l1 (by decide) (by decide)) hm hr
 rw [if_neg e1] at hr ⊢
 by_cases e2:op=2
 . rw [if_pos e2] at hr ⊢
   subst e2;exact wact2 (k:=0) hN hD h (l2 rfl) hr
 rw [if_neg e2] at hr ⊢
 by_cases e3:op=3
 . rw [if_pos e3] at hr ⊢
   subst e3;exact wact3 (k:=0) hN hD h hr
 rw [if_neg e3] at hr ⊢;have hl:=l1 e2 e3
 by_cases e4:op=4
 . rw [if_pos e4] at hr ⊢
   subst e4;refine wact4 ?_;unfold brW at hr ⊢
   cases other with
   | nil=>exact wbr0 (other:=[]) hN hD (h.box _) hl hB dB hr
   | cons o r=>exact wbr1 hN hD (h.box _) hl hB dB hO dO (by simp) hr
 rw [if_neg e4] at hr ⊢
 by_cases e5:op=5
 . rw [if_pos e5] at hr ⊢
   subst e5;exact wact5 (wwh hN hD (h.box _) hl hB dB hr)
 rw [if_neg e5] at hr ⊢
 by_cases e6:op=6
 . rw [if_pos e6] at hr ⊢
   subst e6;exact wact6 (k:=0) hN hD h hl hr
 rw [if_neg e6] at hr ⊢
 by_cases e7:op=7
 . rw [if_pos e7] at hr ⊢
   subst e7;exact wact7 (k:=0) hN hD h hl hr
 . omega
theorem wact_any {w0:World} {R:Nat} {c:Ck}:∀ (k:Nat) (l:List Ac),acsB c k l=true->∀ y ∈ l,AcC w0 R k y
 | 0,l,h=>by simp [acsB] at h
 | k + 1,l,h=>fun y hy=>by
   simp only [acsB,Bool.and_eq_true,List.all_eq_true] at h;obtain ⟨h1,h2,h3⟩:=h.2 y hy
   have hN:∀ z ∈ y.args,NdC w0 R 6 z:=fun z hz=>by
    rw [show ndsB c 6 y.args=y.args.all (fun x=>nodeA c x&&ndsB c 5 x.args) from rfl,List.all_eq_true] at h2;have h4:=h2 z hz;rw [Bool.and_eq_true] at h4;exact wnode_any 5 z h4.1 h4.2
   have nil:∀ (q:List Ac),q.length=0->∀ z ∈ q,AcC w0 R k z:=fun q hq z hz=>by
    rw [List.eq_nil_of_length_eq_zero hq] at hz;simp at hz
   refine wact_of h1 hN ?_ ?_
   . split at h3
     . exact wact_any k _ (Bool.and_eq_true .. ▸ h3).1
     . split at h3
       . exact wact_any k _ (Bool.and_eq_true .. ▸ h3).1
       . simp only [Bool.and_eq_true,decide_eq_true_eq] at h3
         exact nil _ h3.1
   . split at h3
     . exact wact_any k _ (Bool.and_eq_true .. ▸ h3).2
     . split at h3
       . simp only [Bool.and_eq_true,decide_eq_true_eq] at h3
         exact nil _ h3.2
       . simp only [Bool.and_eq_true,decide_eq_true_eq] at h3
         exact nil _ h3.2
end Go.Proofs.YtndkhgakfodldaaGreatDoor

namespace Go.Proofs.YtndkhgakfodldaaGreatDoor
set_option maxRecDepth 100000
set_option maxHeartbeats 1600000
open Go.RowKit Go.Maps Go.WideMaps
set_option linter.unusedSimpArgs false
set_option linter.unusedVariables false
def grw:Nat->Nat
 | 0=>0
 | k+1=>3*grw k+4
theorem ndsW_grow {f:Nd->Wrt->Wrt} {g:Nat}:∀ (l:List Nd),(∀ y ∈ l,∀ s,(f y s).code.length<=s.code.length+g)->∀ s,(ndsW f l s).code.length<=s.code.length+l.length*g
 | [],_,s=>by simp [ndsW]
 | x :: r,h,s=>by
   have h1:=h x (List.mem_cons_self ..) s;have h2:=ndsW_grow r (fun y hy=>h y (List.mem_cons_of_mem _ hy)) (f x s);show (ndsW f r (f x s)).code.length<=_;simp only [List.length_cons,Nat.add_mul,Nat.one_mul];omega
def Few (c:Ck):Prop:=∀ m at_ k:Int,prtB c m at_ k=true->k<=3
theorem nodeA_few {c:Ck} (hc:Few c) {x:Nd} (h:nodeA c x=true):x.args.length<=3:=by
 obtain ⟨op,n,m,at_,args⟩:=x;show args.length<=3
 by_cases e1:op=1
 . subst e1;simp [nodeA,Nd.op,Nd.args] at h;rw [h.1];simp
 by_cases e3:op=16
 . subst e3;simp [nodeA,Nd.op,Nd.args] at h;rw [h.1];simp
 by_cases e4:op=3
 . subst e4;simp [nodeA,Nd.op,Nd.args] at h;rw [h.1];simp
 by_cases e5:op=4
 . subst e5;have:=nodeA_4 h;omega
 by_cases e6:op=5
 . subst e6
   simp [nodeA,Nd.op,Nd.args,Nd.m,Nd.at_] at h;have:=hc _ _ _ h.2;omega
 have hl:=nodeA_9 h e1 e3 e4 e5 e6;unfold argsOf at hl
 split at hl
 . omega
 . split at hl
   . omega
   . split at hl<;>omega
theorem ndW_grow {c:Ck} (hc:Few c):∀ (k:Nat) (x:Nd),nodeA c x=true->ndsB c k x.args=true->∀ s,(ndW (k+1) x s).code.length<=s.code.length+grw (k+1):=by
 have key:∀ (k:Nat) (x:Nd),nodeA c x=true->(∀ y ∈ x.args,∀ s,(ndW k y s).code.length<=s.code.length+grw k)->∀ s,(ndW (k+1) x s).code.length<=s.code.length+grw (k+1):=by
  intro k x hx hN s;have hl:=nodeA_few hc hx;obtain ⟨op,n,m,at_,args⟩:=x
  have hA:∀ i s,(ndW k (argN args i) s).code.length<=s.code.length+grw k:=fun i s=>by
   by_cases hi:i<args.length
   . rw [argN_get _ _ hi];exact hN _ (List.getElem_mem hi) s
   . have:argN args i=nd0:=by simp [argN,List.getD_eq_getElem?_getD,List.getElem?_eq_none (Nat.le_of_not_lt hi)]
     rw [this]
     cases k with
     | zero=>exact Nat.le_add_right ..
     | succ k=>
       show (putW 10 0 0 (ndsW (ndW k) [] s)).code.length<=_;rw [putW_len];show s.code.length+1<=s.code.length+(3*grw k+4);omega
  have hall:=ndsW_grow (f:=ndW k) (g:=grw k) args hN s;have hm:args.length*grw k<=3*grw k:=Nat.mul_le_mul_right _ hl;have h0:=hA 0 s;have h1:=hA 1 (jmpW 12 0 (ndW k (argN args 0) s));have h2:=hA 1 (landW (ndW k (argN args 0) s).code.length (jmpW 11 0 (putW 1 1 0 (jmpW 12 0 (ndW k (argN args 0) s)))));rw [ndW_succ];unfold ndStep;simp only [grw];simp only [landW_len,jmpW_len,putW_len] at h1 h2
  repeat' split
  all_goals (simp only [putW_len,fixW_len,idxW,callW,andW,orW,landW_len,jmpW_len];omega)
 intro k
 induction k with
 | zero=>intro x h1 h2;exact key 0 x h1 (fun y hy s=>Nat.le_add_right ..)
 | succ k ih=>
   intro x h1 h2;refine key (k+1) x h1 (fun y hy=>?_);rw [show ndsB c (k+1) x.args=x.args.all (fun x=>nodeA c x&&ndsB c k x.args) from rfl,List.all_eq_true] at h2;have h4:=h2 y hy;rw [Bool.and_eq_true] at h4;exact ih y h4.1 h4.2
theorem blkW_grow {f:Ac->Wrt->Wrt} {g:Nat}:∀ (l:List Ac),(∀ y ∈ l,∀ s,(f y s).code.length<=max s.code.length 2048+g)->∀ s,(blkW f l s).code.length<=max s.code.length (2048+g)
 | [],_,s=>Nat.le_max_left ..
 | x :: r,h,s=>by
   have h1:=h x (List.mem_cons_self ..) s;have h2:=blkW_grow r (fun y hy=>h y (List.mem_cons_of_mem _ hy));show (blkW f r (if fullW s=true then s else f x s)).code.length<=_;split
   . exact h2 s
   . rename_i hf
     have:=h2 (f x s);unfold fullW at hf;simp only [decide_eq_true_eq] at hf;omega
theorem acsB_in {c:Ck} {k:Nat} {l:List Ac} (h:acsB c (k+1) l=true) {y:Ac} (hy:y ∈ l):actA c y=true/\ndsB c 6 y.args=true/\(acsB c k y.body=true\/y.body.length=0)/\(acsB c k y.other=true\/y.other.length=0):=by
 simp only [acsB,Bool.and_eq_true,List.all_eq_true] at h;obtain ⟨h1,h2,h3⟩:=h.2 y hy;refine ⟨h1,h2,?_⟩
 split at h3
 . rw [Bool.and_eq_true] at h3;exact ⟨Or.inl h3.1,Or.inl h3.2⟩
 . split at h3
   . rw [Bool.and_eq_true] at h3;exact ⟨Or.inl h3.1,Or.inr (of_decide_eq_true h3.2)⟩
   . rw [Bool.and_eq_true] at h3;exact ⟨Or.inr (of_decide_eq_true h3.1),Or.inr (of_decide_eq_true h3.2)⟩
theorem acW_grow {c:Ck} (hc:Few c):∀ (k:Nat) (l:List Ac),acsB c k l=true->∀ y ∈ l,∀ s,(acW k y s).code.length<=max s.code.length 2048+5000*k
 | 0,l,h=>by simp [acsB] at h
 | k + 1,l,h=>fun y hy s=>by
   obtain ⟨h1,h2,h3,h4⟩:=acsB_in h hy;obtain ⟨op,n,m,at_,args,body,other⟩:=y;obtain ⟨⟨o1,o7⟩,l2,l1⟩:=actA_args h1;simp only [Ac.args,Ac.body,Ac.other] at h2 h3 h4
   have hN:∀ z ∈ args,∀ s,(ndW 6 z s).code.length<=s.code.length+1456:=fun z hz s=>by
    rw [show ndsB c 6 args=args.all (fun x=>nodeA c x&&ndsB c 5 x.args) from rfl,List.all_eq_true] at h2;have h5:=h2 z hz;rw [Bool.and_eq_true] at h5;exact ndW_grow hc 5 z h5.1 h5.2 s
   have hA:∀ i,i<args.length->∀ s,(ndW 6 (argN args i) s).code.length<=s.code.length+1456:=fun i hi s=>by
    rw [argN_get _ _ hi];exact hN _ (List.getElem_mem hi) s
   have nil:∀ (q:List Ac),q.length=0->∀ s,(blkW (acW k) q s).code.length<=max s.code.length (2048+5000*k):=fun q hq s=>by
    rw [List.eq_nil_of_length_eq_zero hq];exact Nat.le_max_left ..
   have hB:∀ s,(blkW (acW k) body s).code.length<=max s.code.length (2048+5000*k):=by
    rcases h3 with h3 | h3
    . exact blkW_grow _ (acW_grow hc k _ h3)
    . exact nil _ h3
   have hO:∀ s,(blkW (acW k) other s).code.length<=max s.code.length (2048+5000*k):=by
    rcases h4 with h4 | h4
    . exact blkW_grow _ (acW_grow hc k _ h4)
    . exact nil _ h4
   rw [acW_succ];unfold acStep
   by_cases e3:op=3
   . subst e3
     have hp:args.length<=3:=by
      simp [actA,Ac.op,Ac.args,Ac.m,Ac.at_] at h1;have:=hc _ _ _ h1.2;omega
     have h5:=ndsW_grow (f:=ndW 6) (g:=1456) args hN s;have h6:args.length*1456<=3*1456:=Nat.mul_le_mul_right _ hp;simp only [show ¬ ((3:Int)=1) from by decide,show ¬ ((3:Int)=2) from by decide,if_true,if_false,putW_len,callW,fixW_len];omega
   have hl0:0<args.length:=by
    by_cases e2:op=2
    . have:=l2 e2;omega
    . have:=l1 e2 e3;omega
   have h0:=hA 0 hl0 s;have b1:=hB (jmpW 12 0 (ndW 6 (argN args 0) s));have b2:=hO (landW (ndW 6 (argN args 0) s).code.length (jmpW 11 0 (blkW (acW k) body (jmpW 12 0 (ndW 6 (argN args 0) s)))));have b3:=hB (putW 16 0 0 (jmpW 12 0 (ndW 6 (argN args 0) s)));simp only [landW_len,jmpW_len,putW_len] at b1 b2 b3
   by_cases e2:op=2
   . subst e2
     have h7:=hA 1 (by have:=l2 rfl;omega) (idxW (ndW 6 (argN args 0)) n m at_ s);simp only [show ¬ ((2:Int)=1) from by decide,if_true,if_false,putW_len];simp only [idxW,fixW_len] at h7 ⊢;omega
   repeat' split
   all_goals first
    | omega
    | (simp only [putW_len,setW,brW,whW];omega)
    | (unfold setW;split<;>simp only [putW_len,fixW_len]<;>omega)
    | (unfold brW;split<;>simp only [landW_len]<;>omega)
    | (unfold whW;simp only [landW_len,jmpW_len];omega)
theorem bodyW_grow {c:Ck} (hc:Few c) (p:Pt) (h:acsB c 6 p.body=true) (s:Wrt):(bodyW p s).code.length<=max s.code.length 32048+3:=by
 have:=blkW_grow p.body (acW_grow hc 6 p.body h) (putW 14 p.params p.locals s);simp only [putW_len] at this;simp only [bodyW,putW_len];omega
theorem wbody_any {w0 w:World} {R:Nat} {K:List (Nat × Obj)} {s:Wrt} {A:Nat->Prop} {p:Pt} {a:Option Addr} {cap:Nat} {c:Ck} (hp:acsB c 6 p.body=true) (hD:DAt w0 A a p.body.length (acsD p.body)) (h:Wri w0 w R K s) (hr:(bodyW p s).code.length<=1000000) :
 Calls Tryz.prog 79 #[.pointer (some ⟨R,0,none⟩),.agg #[.int .i64 p.params,.int .i64 p.locals,.slice a p.body.length cap]] w fun e w'=>e = .returned (.tuple #[])/\Wri w0 w' R K (bodyW p s):=by
 have HW:Hid (Wri w0 (w.alloc (.cells #[.int .i64 p.params,.int .i64 p.locals,.slice a p.body.length cap] 106)) R ((w.heap.size,.cells #[.int .i64 p.params,.int .i64 p.locals,.slice a p.body.length cap] 106) :: K) s):=h.box _;have m1:=blkW_mono (acW_mono 6) p.body (putW 14 p.params p.locals s)
 have r1:(blkW (acW 6) p.body (putW 14 p.params p.locals s)).code.length+2<=1000000:=by simp only [bodyW,putW_len] at hr;omega
 rw [putW_len] at m1;have HB:=hid (fun (K:List (Nat × Obj)) (s:Wrt) (w:World)=>wblock_any (w:=w) (K:=K) (s:=s) (cap:=cap) (wact_any (w0:=w0) (R:=R) 6 p.body hp) hD);clear h hp hD;go_enter Tryz.func79,Tryz.ntmps79;go_wp2_with fail;refine (put_any 14 p.params p.locals HW.out (by omega)).mono ?_;rintro e w1 ⟨rfl,h1⟩;have H1:=hid h1;clear h1;obtain ⟨q0,q1,q2, -⟩:=cellsOf3 H1.out.head;go_wp2_with fail;refine (HB.out _ _ _ H1.out (by omega)).mono ?_;rintro e w2 ⟨rfl,h2⟩;have H2:=hid h2;clear h2 q0 q1 q2;go_wp2_with fail;refine (put_any 1 0 0 H2.out (by omega)).mono ?_;rintro e w3 ⟨rfl,h3⟩;have H3:=hid h3;clear h3;go_wp2_with fail;refine (put_any 15 0 0 H3.out (by rw [putW_len];omega)).mono ?_;rintro e w4 ⟨rfl,h4⟩;have H4:=hid h4;clear h4;go_wp2_with fail;go_end0;exact ⟨rfl,H4.out.tail⟩
end Go.Proofs.YtndkhgakfodldaaGreatDoor
