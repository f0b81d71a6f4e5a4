/-
  Package units: whether numbers, or a part, of a module may be meant.
-/
import Derived.Test.YtndkhgakfodldaaGreatDoorUi
namespace Go.Proofs.YtndkhgakfodldaaGreatDoor
set_option maxRecDepth 100000
set_option maxHeartbeats 1600000
open Go.RowKit Go.Maps Go.WideMaps
set_option linter.unusedSimpArgs false
set_option linter.unusedVariables false
theorem zai {w:World} {b:Nat} {x0 x1 x2 x3 x4 x5 x6:Value} {t:TypeId} (h:w.heap[b]? = some (.cells #[x0,x1,x2,x3,x4,x5,x6] t (0,0))) :
 w.cell? ⟨b,0,none⟩=some x0/\w.cell? ⟨b,1,none⟩=some x1/\w.cell? ⟨b,2,none⟩=some x2/\w.cell? ⟨b,3,none⟩=some x3/\w.cell? ⟨b,4,none⟩=some x4/\w.cell? ⟨b,5,none⟩=some x5/\w.cell? ⟨b,6,none⟩=some x6/\b<w.heap.size:=by
 refine ⟨?_,?_,?_,?_,?_,?_,?_,zab h⟩<;>(rw [veq h];rfl)
theorem z5e (w:World) (o p:Obj):((w.alloc o).alloc p).heap[w.heap.size+1]? = some p:=by simpa using heap_newP (w.alloc o) p
theorem z6x (av:OA) (nv cv:Nat) (w:World):(nilAhead 337 199 (.slice av nv cv) "HasPart").run Tryz.prog w = .ok (some false) w:=by kernel_rfl
theorem z6y (av:OA) (nv cv:Nat) (w:World):(method 337 199 (.slice av nv cv) "HasPart").run Tryz.prog w = .ok (330,.slice av nv cv) w:=by kernel_rfl
theorem z77 (c:Ck) (s:ByteArray) (x1:OA) (y1:Nat) (x2:OA) (y2:Nat) (x3:OA) (n3 y3:Nat) (av:OA) (nv cv:Nat) (m at_:Int) (k:Nat) (w:World) (hP:DAt w Tt x2 c.parts.length (zlc c.parts)) (hu:c.uses<=17592186044416) (hU:UsAt w c 329 330 (.slice av nv cv)) (hm:(Lit.int .i64 m).wf=true) (ha:(Lit.int .i64 at_).wf=true) (hk:k<=17592186044416) :
 Calls Tryz.prog 212 #[.agg #[.string s,.slice x1 c.uses y1,.int .i64 c.data,.slice x2 c.parts.length y2,.slice x3 n3 y3,.iface 199 (.slice av nv cv),.int .i64 c.locals],.int .i64 m,.int .i64 at_,.int .i64 k] w fun e w'=>e = .returned (.bool (zjr c m at_ k))/\Below w.heap.size w w':=by
 have HU:=hid hU;have HA:=hid ha;have HP:=hid hP;have hpb:=hP.bound;clear hU ha hm hP;have n1:=z6x av nv cv;have n2:=z6y av nv cv
 by_cases h0:m=0
 . subst h0
   have HR:Hid (zjr c 0 at_ k=zun c.parts at_ k):=if_pos rfl
   by_cases t1:0<=at_
   . obtain ⟨i,rfl⟩:∃ i:Nat,at_=i:=⟨at_.toNat,by omega⟩
     by_cases t2:i<c.parts.length
     . obtain ⟨b,off,ab,cb,rfl,hx⟩:=(HP.out.later (al1 w (.cells #[.string s,.slice x1 c.uses y1,.int .i64 c.data,.slice x2 c.parts.length y2,.slice x3 n3 y3,.iface 199 (.slice av nv cv),.int .i64 c.locals] 206))).pt i t2
       have HQ:Hid (zun c.parts i k=decide (c.parts[i].params=k)):=by show _=_;unfold zun;rw [decide_eq_true t1,vbm,vaj t2];rfl
       obtain ⟨hbl,p0,_,_,_,_,_⟩:=hx
       have t2':(i:Int)<c.parts.length:=by omega
       have pz:b<w.heap.size+1:=by simpa using hbl
       generalize c.parts[i].params=pp at *
       by_cases t3:pp=k
       . have HR':Hid (zjr c 0 i k=true):=by show _=_;rw [HR.out,HQ.out,decide_eq_true t3]
         subst t3;go_enter Tryz.func212,Tryz.ntmps212;go_wp2_with fail;go_ret;exact ⟨zaa (by first | exact HR'.out.symm | (rw [HR'.out];first | (simp;omega) | (simp [*];done))),al1 _ _⟩
       . have HR':Hid (zjr c 0 i k=false):=by show _=_;rw [HR.out,HQ.out,decide_eq_false t3]
         go_enter Tryz.func212,Tryz.ntmps212;go_wp2_with fail;go_ret;exact ⟨zaa (by first | exact HR'.out.symm | (rw [HR'.out];first | (simp;omega) | (simp [*];done))),al1 _ _⟩
     . have HR':Hid (zjr c 0 i k=false):=by show _=_;rw [HR.out];unfold zun;rw [vbm,vbs (by omega)];simp
       have t2':c.parts.length<=i:=by omega
       clear t2;go_enter Tryz.func212,Tryz.ntmps212;go_wp2_with fail;go_ret;exact ⟨zaa (by first | exact HR'.out.symm | (rw [HR'.out];first | (simp;omega) | (simp [*];done))),al1 _ _⟩
   . have HR':Hid (zjr c 0 at_ k=false):=by show _=_;rw [HR.out];unfold zun;rw [decide_eq_false t1];rfl
     have t1':at_<0:=by omega
     clear t1;go_enter Tryz.func212,Tryz.ntmps212;go_wp2_with fail;go_ret;exact ⟨zaa (by first | exact HR'.out.symm | (rw [HR'.out];first | (simp;omega) | (simp [*];done))),al1 _ _⟩
 . have HR:Hid (zjr c m at_ k=(zum c m&&c.prt m at_ k)):=if_neg h0
   have HI:=hid (zlh c s x1 y1 x2 y2 x3 n3 y3 (.iface 199 (.slice av nv cv)) m (w.alloc (.cells #[.string s,.slice x1 c.uses y1,.int .i64 c.data,.slice x2 c.parts.length y2,.slice x3 n3 y3,.iface 199 (.slice av nv cv),.int .i64 c.locals] 206)))
   cases hb:zum c m with
   | false=>
     rw [hb] at HI HR;go_enter Tryz.func212,Tryz.ntmps212;go_wp2_with fail;refine HI.out.mono ?_;rintro e w1 ⟨rfl,hb1⟩;have HB1:=hid (thenB (al1 w _) hb1);clear hb1;go_wp2_with fail;go_ret;exact ⟨zaa (by first | exact HR.out.symm | (rw [HR.out];first | (simp;omega) | (simp [*];done))),HB1.out⟩
   | true=>
     rw [hb] at HI HR;have HUb:=hid hb;clear hb;go_enter Tryz.func212,Tryz.ntmps212;go_wp2_with fail;refine HI.out.mono ?_;rintro e w1 ⟨rfl,hb1⟩;have HB1:=hid (thenB (al1 w _) hb1);have q1:=(hb1.block _ (by simp)).trans (heap_newP w (.cells #[.string s,.slice x1 c.uses y1,.int .i64 c.data,.slice x2 c.parts.length y2,.slice x3 n3 y3,.iface 199 (.slice av nv cv),.int .i64 c.locals] 206));obtain ⟨c0,c1,c2,c3,c4,c5,c6,cz⟩:=zai q1;clear hb1 q1 c0 c1 c2 c3 c4 c6 HI
     go_wp2_with (go_at_call 330;refine (HU.out.prt _ HB1.out m at_ k HUb.out HA.out hk).mono ?_;rintro e w2 ⟨rfl,hb2⟩;have HB2:=hid (thenB HB1.out hb2);clear hb2)
     go_ret;exact ⟨zaa (by rw [HR.out];rfl),HB2.out⟩
theorem z6z (w:World):(nilAhead 337 133 (.agg #[]) "HasNumbers").run Tryz.prog w = .ok (some false) w:=by kernel_rfl
theorem z60 (w:World):(nilAhead 337 133 (.agg #[]) "HasPart").run Tryz.prog w = .ok (some false) w:=by kernel_rfl
theorem z61 (w:World):(method 337 133 (.agg #[]) "HasNumbers").run Tryz.prog w = .ok (327,.agg #[]) w:=by kernel_rfl
theorem z62 (w:World):(method 337 133 (.agg #[]) "HasPart").run Tryz.prog w = .ok (328,.agg #[]) w:=by kernel_rfl
theorem z0i (c:Ck) (s:ByteArray) (x1:OA) (y1:Nat) (x2:OA) (y2:Nat) (x3:OA) (n3 y3:Nat) (m at_ n:Int) (w:World) (hd0:0<=c.data) (hd1:c.data<=512) (hu:c.uses<=17592186044416) (hU:UsAt w c 327 328 (.agg #[])) (hm:(Lit.int .i64 m).wf=true) (ha:(Lit.int .i64 at_).wf=true) (h1:1<=n) (h2:n<=32) :
 Calls Tryz.prog 210 #[.agg #[.string s,.slice x1 c.uses y1,.int .i64 c.data,.slice x2 c.parts.length y2,.slice x3 n3 y3,.iface 133 (.agg #[]),.int .i64 c.locals],.int .i64 m,.int .i64 at_,.int .i64 n] w fun e w'=>e = .returned (.bool (numB c m at_ n))/\Below w.heap.size w w':=by
 have HU:=hid hU;have HA:=hid ha;clear hU ha hm;have n1:=z6z;have n2:=z61
 by_cases h0:m=0
 . subst h0
   have HR:Hid (numB c 0 at_ n=zzz c.data at_ n):=if_pos rfl;go_enter Tryz.func210,Tryz.ntmps210;go_wp2_with fail;refine (zlg c.data at_ n _ hd0 hd1 h1 h2 HA.out).mono ?_;rintro e w1 ⟨rfl,rfl⟩;go_wp2_with fail;go_ret;exact ⟨zaa (by first | exact HR.out.symm | (rw [HR.out];first | (simp;omega) | (simp [*];done))),al1 _ _⟩
 . have HR:Hid (numB c m at_ n=(zum c m&&c.num m at_ n)):=if_neg h0
   have HI:=hid (zlh c s x1 y1 x2 y2 x3 n3 y3 (.iface 133 (.agg #[])) m (w.alloc (.cells #[.string s,.slice x1 c.uses y1,.int .i64 c.data,.slice x2 c.parts.length y2,.slice x3 n3 y3,.iface 133 (.agg #[]),.int .i64 c.locals] 206)))
   cases hb:zum c m with
   | false=>
     rw [hb] at HI HR;go_enter Tryz.func210,Tryz.ntmps210;go_wp2_with fail;refine HI.out.mono ?_;rintro e w1 ⟨rfl,hb1⟩;have HB1:=hid (thenB (al1 w _) hb1);clear hb1;go_wp2_with fail;go_ret;exact ⟨zaa (by first | exact HR.out.symm | (rw [HR.out];first | (simp;omega) | (simp [*];done))),HB1.out⟩
   | true=>
     rw [hb] at HI HR;have HUb:=hid hb;clear hb;go_enter Tryz.func210,Tryz.ntmps210;go_wp2_with fail;refine HI.out.mono ?_;rintro e w1 ⟨rfl,hb1⟩;have HB1:=hid (thenB (al1 w _) hb1);have q1:=(hb1.block _ (by simp)).trans (heap_newP w (.cells #[.string s,.slice x1 c.uses y1,.int .i64 c.data,.slice x2 c.parts.length y2,.slice x3 n3 y3,.iface 133 (.agg #[]),.int .i64 c.locals] 206));obtain ⟨c0,c1,c2,c3,c4,c5,c6,cz⟩:=zai q1;clear hb1 q1 c0 c1 c2 c3 c4 c6 HI
     go_wp2_with (go_at_call 327;refine (HU.out.num _ HB1.out m at_ n HUb.out HA.out h1 h2).mono ?_;rintro e w2 ⟨rfl,hb2⟩;have HB2:=hid (thenB HB1.out hb2);clear hb2)
     go_ret;exact ⟨zaa (by rw [HR.out];rfl),HB2.out⟩
theorem z63 (c:Ck) (s:ByteArray) (x1:OA) (y1:Nat) (x2:OA) (y2:Nat) (x3:OA) (n3 y3:Nat) (m at_:Int) (k:Nat) (w:World) (hP:DAt w Tt x2 c.parts.length (zlc c.parts)) (hu:c.uses<=17592186044416) (hU:UsAt w c 327 328 (.agg #[])) (hm:(Lit.int .i64 m).wf=true) (ha:(Lit.int .i64 at_).wf=true) (hk:k<=17592186044416) :
 Calls Tryz.prog 212 #[.agg #[.string s,.slice x1 c.uses y1,.int .i64 c.data,.slice x2 c.parts.length y2,.slice x3 n3 y3,.iface 133 (.agg #[]),.int .i64 c.locals],.int .i64 m,.int .i64 at_,.int .i64 k] w fun e w'=>e = .returned (.bool (zjr c m at_ k))/\Below w.heap.size w w':=by
 have HU:=hid hU;have HA:=hid ha;have HP:=hid hP;have hpb:=hP.bound;clear hU ha hm hP;have n1:=z60;have n2:=z62
 by_cases h0:m=0
 . subst h0
   have HR:Hid (zjr c 0 at_ k=zun c.parts at_ k):=if_pos rfl
   by_cases t1:0<=at_
   . obtain ⟨i,rfl⟩:∃ i:Nat,at_=i:=⟨at_.toNat,by omega⟩
     by_cases t2:i<c.parts.length
     . obtain ⟨b,off,ab,cb,rfl,hx⟩:=(HP.out.later (al1 w (.cells #[.string s,.slice x1 c.uses y1,.int .i64 c.data,.slice x2 c.parts.length y2,.slice x3 n3 y3,.iface 133 (.agg #[]),.int .i64 c.locals] 206))).pt i t2
       have HQ:Hid (zun c.parts i k=decide (c.parts[i].params=k)):=by show _=_;unfold zun;rw [decide_eq_true t1,vbm,vaj t2];rfl
       obtain ⟨hbl,p0,_,_,_,_,_⟩:=hx
       have t2':(i:Int)<c.parts.length:=by omega
       have pz:b<w.heap.size+1:=by simpa using hbl
       generalize c.parts[i].params=pp at *
       by_cases t3:pp=k
       . have HR':Hid (zjr c 0 i k=true):=by show _=_;rw [HR.out,HQ.out,decide_eq_true t3]
         subst t3;go_enter Tryz.func212,Tryz.ntmps212;go_wp2_with fail;go_ret;exact ⟨zaa (by first | exact HR'.out.symm | (rw [HR'.out];first | (simp;omega) | (simp [*];done))),al1 _ _⟩
       . have HR':Hid (zjr c 0 i k=false):=by show _=_;rw [HR.out,HQ.out,decide_eq_false t3]
         go_enter Tryz.func212,Tryz.ntmps212;go_wp2_with fail;go_ret;exact ⟨zaa (by first | exact HR'.out.symm | (rw [HR'.out];first | (simp;omega) | (simp [*];done))),al1 _ _⟩
     . have HR':Hid (zjr c 0 i k=false):=by show _=_;rw [HR.out];unfold zun;rw [vbm,vbs (by omega)];simp
       have t2':c.parts.length<=i:=by omega
       clear t2;go_enter Tryz.func212,Tryz.ntmps212;go_wp2_with fail;go_ret;exact ⟨zaa (by first | exact HR'.out.symm | (rw [HR'.out];first | (simp;omega) | (simp [*];done))),al1 _ _⟩
   . have HR':Hid (zjr c 0 at_ k=false):=by show _=_;rw [HR.out];unfold zun;rw [decide_eq_false t1];rfl
     have t1':at_<0:=by omega
     clear t1;go_enter Tryz.func212,Tryz.ntmps212;go_wp2_with fail;go_ret;exact ⟨zaa (by first | exact HR'.out.symm | (rw [HR'.out];first | (simp;omega) | (simp [*];done))),al1 _ _⟩
 . have HR:Hid (zjr c m at_ k=(zum c m&&c.prt m at_ k)):=if_neg h0
   have HI:=hid (zlh c s x1 y1 x2 y2 x3 n3 y3 (.iface 133 (.agg #[])) m (w.alloc (.cells #[.string s,.slice x1 c.uses y1,.int .i64 c.data,.slice x2 c.parts.length y2,.slice x3 n3 y3,.iface 133 (.agg #[]),.int .i64 c.locals] 206)))
   cases hb:zum c m with
   | false=>
     rw [hb] at HI HR;go_enter Tryz.func212,Tryz.ntmps212;go_wp2_with fail;refine HI.out.mono ?_;rintro e w1 ⟨rfl,hb1⟩;have HB1:=hid (thenB (al1 w _) hb1);clear hb1;go_wp2_with fail;go_ret;exact ⟨zaa (by first | exact HR.out.symm | (rw [HR.out];first | (simp;omega) | (simp [*];done))),HB1.out⟩
   | true=>
     rw [hb] at HI HR;have HUb:=hid hb;clear hb;go_enter Tryz.func212,Tryz.ntmps212;go_wp2_with fail;refine HI.out.mono ?_;rintro e w1 ⟨rfl,hb1⟩;have HB1:=hid (thenB (al1 w _) hb1);have q1:=(hb1.block _ (by simp)).trans (heap_newP w (.cells #[.string s,.slice x1 c.uses y1,.int .i64 c.data,.slice x2 c.parts.length y2,.slice x3 n3 y3,.iface 133 (.agg #[]),.int .i64 c.locals] 206));obtain ⟨c0,c1,c2,c3,c4,c5,c6,cz⟩:=zai q1;clear hb1 q1 c0 c1 c2 c3 c4 c6 HI
     go_wp2_with (go_at_call 328;refine (HU.out.prt _ HB1.out m at_ k HUb.out HA.out hk).mono ?_;rintro e w2 ⟨rfl,hb2⟩;have HB2:=hid (thenB HB1.out hb2);clear hb2)
     go_ret;exact ⟨zaa (by rw [HR.out];rfl),HB2.out⟩
theorem ckS (c:Ck) (s:ByteArray) (x1:OA) (y1:Nat) (x2:OA) (y2:Nat) (x3:OA) (n3 y3:Nat) (w:World) (hd0:0<=c.data) (hd1:c.data<=512) (hu:c.uses<=17592186044416) (hP:DAt w Tt x2 c.parts.length (zlc c.parts)) (hU:UsAt w c 327 328 (.agg #[])):CkAt w c (.agg #[.string s,.slice x1 c.uses y1,.int .i64 c.data,.slice x2 c.parts.length y2,.slice x3 n3 y3,.iface 133 (.agg #[]),.int .i64 c.locals]):=
 ⟨fun W hW m at_ n h1 h2 h3 h4=>z0i c s x1 y1 x2 y2 x3 n3 y3 m at_ n W hd0 hd1 hu (hU.later hW) h1 h2 h3 h4,fun W hW m at_ k h1 h2 h3=>z63 c s x1 y1 x2 y2 x3 n3 y3 m at_ k W (hP.later hW) hu (hU.later hW) h1 h2 h3⟩
set_option maxHeartbeats 3200000
theorem zg6 (c:Ck) (s:ByteArray) (x1:OA) (y1:Nat) (x2:OA) (y2:Nat) (x3:OA) (n3 y3:Nat) (iv:Value) (n m at_:Int) (w:World) (hC:CkAt w c (.agg #[.string s,.slice x1 c.uses y1,.int .i64 c.data,.slice x2 c.parts.length y2,.slice x3 n3 y3,iv,.int .i64 c.locals])) (hm:(Lit.int .i64 m).wf=true) (ha:(Lit.int .i64 at_).wf=true) :
 Calls Tryz.prog 211 #[.agg #[.string s,.slice x1 c.uses y1,.int .i64 c.data,.slice x2 c.parts.length y2,.slice x3 n3 y3,iv,.int .i64 c.locals],.int .i64 n,.int .i64 m,.int .i64 at_] w fun e w'=>e = .returned (.bool (zyw c n m at_))/\Below w.heap.size w w':=by
 have HN:=hid (fun h1 h2=>hC.num (w.alloc (.cells #[.string s,.slice x1 c.uses y1,.int .i64 c.data,.slice x2 c.parts.length y2,.slice x3 n3 y3,iv,.int .i64 c.locals] 206)) (al1 _ _) m at_ n hm ha h1 h2);clear hC hm ha
 by_cases h1:1<=n
 . by_cases h2:n<=32
   . have HR:Hid (zyw c n m at_=numB c m at_ n):=by show _=_;unfold zyw;rw [decide_eq_true ⟨h1,h2⟩];rfl
     go_enter Tryz.func211,Tryz.ntmps211;go_wp2_with fail;refine (HN.out h1 h2).mono ?_;rintro e w1 ⟨rfl,hb1⟩;have HB1:=hid (thenB (al1 w _) hb1);clear hb1;go_wp2_with fail;go_ret;exact ⟨zaa (by first | exact HR.out.symm | (rw [HR.out];first | (simp;omega) | (simp [*];done))),HB1.out⟩
   . have HR:Hid (zyw c n m at_=false):=by show _=_;unfold zyw;rw [decide_eq_false (by omega)];rfl
     have h2':32<n:=by omega
     clear h2 HN;go_enter Tryz.func211,Tryz.ntmps211;go_wp2_with fail;go_ret;exact ⟨zaa (by first | exact HR.out.symm | (rw [HR.out];first | (simp;omega) | (simp [*];done))),al1 _ _⟩
 . have HR:Hid (zyw c n m at_=false):=by show _=_;unfold zyw;rw [decide_eq_false (by omega)];rfl
   have h1':n<1:=by omega
   clear h1 HN;go_enter Tryz.func211,Tryz.ntmps211;go_wp2_with fail;go_ret;exact ⟨zaa (by first | exact HR.out.symm | (rw [HR.out];first | (simp;omega) | (simp [*];done))),al1 _ _⟩
theorem zoh (c:Ck) (s:ByteArray) (x1:OA) (y1:Nat) (x2:OA) (y2:Nat) (x3:OA) (n3 y3:Nat) (iv:Value) (x:Nd) (aa:OA) (cp:Nat) (w:World) (hC:CkAt w c (.agg #[.string s,.slice x1 c.uses y1,.int .i64 c.data,.slice x2 c.parts.length y2,.slice x3 n3 y3,iv,.int .i64 c.locals])) (hm:(Lit.int .i64 x.m).wf=true) (ha:(Lit.int .i64 x.at_).wf=true) (hl:x.args.length<=17592186044416) :
 Calls Tryz.prog 213 #[.agg #[.string s,.slice x1 c.uses y1,.int .i64 c.data,.slice x2 c.parts.length y2,.slice x3 n3 y3,iv,.int .i64 c.locals],.agg #[.int .i64 x.op,.int .i64 x.n,.int .i64 x.m,.int .i64 x.at_,.slice aa x.args.length cp]] w fun e w'=>e = .returned (.bool (za2 c x))/\Below w.heap.size w w':=by
 obtain ⟨op,n,m,at_,args⟩:=x;simp only [Nd.op,Nd.n,Nd.m,Nd.at_,Nd.args] at *;have HC:=hid hC;have HM:=hid hm;have HA:=hid ha;clear hC hm ha
 by_cases o3:op=3
 . subst o3
   by_cases t2:args.length=0
   . by_cases t1:n=0
     . have HR:Hid (za2 c (.mk 3 n m at_ args)=numB c m at_ 1):=by show _=_;unfold za2;simp only [Nd.op,Nd.n,Nd.m,Nd.at_,Nd.args];simp [*]
       go_enter Tryz.func213,Tryz.ntmps213;go_wp2_with fail;refine (HC.out.num _ (al2 _ _ _) m at_ 1 HM.out HA.out (by decide) (by decide)).mono ?_;rintro e w1 ⟨rfl,hb1⟩;have HB1:=hid (thenB (al2 w _ _) hb1);clear hb1;go_wp2_with fail;go_ret;exact ⟨zaa (by first | exact HR.out.symm | (rw [HR.out];first | (simp;omega) | (simp [*];done))),HB1.out⟩
     . have HR:Hid (za2 c (.mk 3 n m at_ args)=false):=by show _=_;unfold za2;simp only [Nd.op,Nd.n,Nd.m,Nd.at_,Nd.args];simp [*]
       have t':n≠0:=by omega
       clear t1;go_enter Tryz.func213,Tryz.ntmps213;go_wp2_with fail;go_ret;exact ⟨zaa (by first | exact HR.out.symm | (rw [HR.out];first | (simp;omega) | (simp [*];done))),al2 _ _ _⟩
   . have HR:Hid (za2 c (.mk 3 n m at_ args)=false):=by show _=_;unfold za2;simp only [Nd.op,Nd.n,Nd.m,Nd.at_,Nd.args];simp [*]
     have t':args.length≠0:=by omega
     clear t2;go_enter Tryz.func213,Tryz.ntmps213;go_wp2_with fail;go_ret;exact ⟨zaa (by first | exact HR.out.symm | (rw [HR.out];first | (simp;omega) | (simp [*];done))),al2 _ _ _⟩
 by_cases o4:op=4
 . subst o4
   by_cases t1:args.length=1
   . have HR:Hid (za2 c (.mk 4 n m at_ args)=zyw c n m at_):=by show _=_;unfold za2;simp only [Nd.op,Nd.n,Nd.m,Nd.at_,Nd.args];simp [*]
     go_enter Tryz.func213,Tryz.ntmps213;go_wp2_with fail;refine (zg6 c s x1 y1 x2 y2 x3 n3 y3 iv n m at_ _ (HC.out.later (al2 _ _ _)) HM.out HA.out).mono ?_;rintro e w1 ⟨rfl,hb1⟩;have HB1:=hid (thenB (al2 w _ _) hb1);clear hb1;go_wp2_with fail;go_ret;exact ⟨zaa (by first | exact HR.out.symm | (rw [HR.out];first | (simp;omega) | (simp [*];done))),HB1.out⟩
   . have HR:Hid (za2 c (.mk 4 n m at_ args)=false):=by show _=_;unfold za2;simp only [Nd.op,Nd.n,Nd.m,Nd.at_,Nd.args];simp [*]
     have t':args.length≠1:=by omega
     clear t1;go_enter Tryz.func213,Tryz.ntmps213;go_wp2_with fail;go_ret;exact ⟨zaa (by first | exact HR.out.symm | (rw [HR.out];first | (simp;omega) | (simp [*];done))),al2 _ _ _⟩
 by_cases o5:op=5
 . subst o5
   by_cases t1:n=0
   . have HR:Hid (za2 c (.mk 5 n m at_ args)=zjr c m at_ args.length):=by show _=_;unfold za2;simp only [Nd.op,Nd.n,Nd.m,Nd.at_,Nd.args];simp [*]
     go_enter Tryz.func213,Tryz.ntmps213;go_wp2_with fail;refine (HC.out.prt _ (al2 _ _ _) m at_ args.length HM.out HA.out hl).mono ?_;rintro e w1 ⟨rfl,hb1⟩;have HB1:=hid (thenB (al2 w _ _) hb1);clear hb1;go_wp2_with fail;go_ret;exact ⟨zaa (by first | exact HR.out.symm | (rw [HR.out];first | (simp;omega) | (simp [*];done))),HB1.out⟩
   . have HR:Hid (za2 c (.mk 5 n m at_ args)=false):=by show _=_;unfold za2;simp only [Nd.op,Nd.n,Nd.m,Nd.at_,Nd.args];simp [*]
     have t':n≠0:=by omega
     clear t1;go_enter Tryz.func213,Tryz.ntmps213;go_wp2_with fail;go_ret;exact ⟨zaa (by first | exact HR.out.symm | (rw [HR.out];first | (simp;omega) | (simp [*];done))),al2 _ _ _⟩
 by_cases o16:op=16
 . subst o16
   by_cases t3:args.length=0
   . by_cases t2:n=0
     . by_cases t1:m=0
       . have HR:Hid (za2 c (.mk 16 n m at_ args)=zwd c at_):=by show _=_;unfold za2;simp only [Nd.op,Nd.n,Nd.m,Nd.at_,Nd.args];simp [*]
         go_enter Tryz.func213,Tryz.ntmps213;go_wp2_with fail;refine (zg8 c s x1 y1 x2 y2 x3 n3 y3 iv at_ _).mono ?_;rintro e w1 ⟨rfl,hb1⟩;have HB1:=hid (thenB (al2 w _ _) hb1);clear hb1;go_wp2_with fail;go_ret;exact ⟨zaa (by first | exact HR.out.symm | (rw [HR.out];first | (simp;omega) | (simp [*];done))),HB1.out⟩
       . have HR:Hid (za2 c (.mk 16 n m at_ args)=false):=by show _=_;unfold za2;simp only [Nd.op,Nd.n,Nd.m,Nd.at_,Nd.args];simp [*]
         have t':m≠0:=by omega
         clear t1;go_enter Tryz.func213,Tryz.ntmps213;go_wp2_with fail;go_ret;exact ⟨zaa (by first | exact HR.out.symm | (rw [HR.out];first | (simp;omega) | (simp [*];done))),al2 _ _ _⟩
     . have HR:Hid (za2 c (.mk 16 n m at_ args)=false):=by show _=_;unfold za2;simp only [Nd.op,Nd.n,Nd.m,Nd.at_,Nd.args];simp [*]
       have t':n≠0:=by omega
       clear t2;go_enter Tryz.func213,Tryz.ntmps213;go_wp2_with fail;go_ret;exact ⟨zaa (by first | exact HR.out.symm | (rw [HR.out];first | (simp;omega) | (simp [*];done))),al2 _ _ _⟩
   . have HR:Hid (za2 c (.mk 16 n m at_ args)=false):=by show _=_;unfold za2;simp only [Nd.op,Nd.n,Nd.m,Nd.at_,Nd.args];simp [*]
     have t':args.length≠0:=by omega
     clear t3;go_enter Tryz.func213,Tryz.ntmps213;go_wp2_with fail;go_ret;exact ⟨zaa (by first | exact HR.out.symm | (rw [HR.out];first | (simp;omega) | (simp [*];done))),al2 _ _ _⟩
 by_cases o1:op=1
 . subst o1
   by_cases t5:args.length=0
   . by_cases t4:0<=n
     . by_cases t3:n<=1099511627775
       . by_cases t2:m=0
         . by_cases t1:at_=0
           . have HR:Hid (za2 c (.mk 1 n m at_ args)=true):=by show _=_;unfold za2;simp only [Nd.op,Nd.n,Nd.m,Nd.at_,Nd.args];simp [*]
             go_enter Tryz.func213,Tryz.ntmps213;go_wp2_with fail;go_ret;exact ⟨zaa (by first | exact HR.out.symm | (rw [HR.out];first | (simp;omega) | (simp [*];done))),al2 _ _ _⟩
           . have HR:Hid (za2 c (.mk 1 n m at_ args)=false):=by show _=_;unfold za2;simp only [Nd.op,Nd.n,Nd.m,Nd.at_,Nd.args];simp [*]
             have t':at_≠0:=by omega
             clear t1;go_enter Tryz.func213,Tryz.ntmps213;go_wp2_with fail;go_ret;exact ⟨zaa (by first | exact HR.out.symm | (rw [HR.out];first | (simp;omega) | (simp [*];done))),al2 _ _ _⟩
         . have HR:Hid (za2 c (.mk 1 n m at_ args)=false):=by show _=_;unfold za2;simp only [Nd.op,Nd.n,Nd.m,Nd.at_,Nd.args];simp [*]
           have t':m≠0:=by omega
           clear t2;go_enter Tryz.func213,Tryz.ntmps213;go_wp2_with fail;go_ret;exact ⟨zaa (by first | exact HR.out.symm | (rw [HR.out];first | (simp;omega) | (simp [*];done))),al2 _ _ _⟩
       . have HR:Hid (za2 c (.mk 1 n m at_ args)=false):=by show _=_;unfold za2;simp only [Nd.op,Nd.n,Nd.m,Nd.at_,Nd.args];simp [*]
         have t':1099511627775<n:=by omega
         clear t3;go_enter Tryz.func213,Tryz.ntmps213;go_wp2_with fail;go_ret;exact ⟨zaa (by first | exact HR.out.symm | (rw [HR.out];first | (simp;omega) | (simp [*];done))),al2 _ _ _⟩
     . have HR:Hid (za2 c (.mk 1 n m at_ args)=false):=by show _=_;unfold za2;simp only [Nd.op,Nd.n,Nd.m,Nd.at_,Nd.args];simp [*]
       have t':n<0:=by omega
       clear t4;go_enter Tryz.func213,Tryz.ntmps213;go_wp2_with fail;go_ret;exact ⟨zaa (by first | exact HR.out.symm | (rw [HR.out];first | (simp;omega) | (simp [*];done))),al2 _ _ _⟩
   . have HR:Hid (za2 c (.mk 1 n m at_ args)=false):=by show _=_;unfold za2;simp only [Nd.op,Nd.n,Nd.m,Nd.at_,Nd.args];simp [*]
     have t':args.length≠0:=by omega
     clear t5;go_enter Tryz.func213,Tryz.ntmps213;go_wp2_with fail;go_ret;exact ⟨zaa (by first | exact HR.out.symm | (rw [HR.out];first | (simp;omega) | (simp [*];done))),al2 _ _ _⟩
 have HQ:Hid (za2 c (.mk op n m at_ args)=(decide ((args.length:Int)=argsOf op)&&(decide (n=0)&&(decide (m=0)&&decide (at_=0))))):=by
  show _=_;unfold za2;exact (if_neg o3).trans ((if_neg o4).trans ((if_neg o5).trans ((if_neg o16).trans (if_neg o1))))
 have HG:=hid (zvx op);generalize argsOf op=g at *
 by_cases t4:(args.length:Int)=g
 . by_cases t3:n=0
   . by_cases t2:m=0
     . by_cases t1:at_=0
       . have HR:Hid (za2 c (.mk op n m at_ args)=true):=by show _=_;rw [HQ.out];simp [*]
         go_enter Tryz.func213,Tryz.ntmps213;go_wp2_with fail;refine (HG.out _).mono ?_;rintro e w1 ⟨rfl,rfl⟩;go_wp2_with fail;go_ret;exact ⟨zaa (by first | exact HR.out.symm | (rw [HR.out];first | (simp;omega) | (simp [*];done))),al2 _ _ _⟩
       . have HR:Hid (za2 c (.mk op n m at_ args)=false):=by show _=_;rw [HQ.out];simp [*]
         have t':at_≠0:=by omega
         clear t1;go_enter Tryz.func213,Tryz.ntmps213;go_wp2_with fail;refine (HG.out _).mono ?_;rintro e w1 ⟨rfl,rfl⟩;go_wp2_with fail;go_ret;exact ⟨zaa (by first | exact HR.out.symm | (rw [HR.out];first | (simp;omega) | (simp [*];done))),al2 _ _ _⟩
     . have HR:Hid (za2 c (.mk op n m at_ args)=false):=by show _=_;rw [HQ.out];simp [*]
       have t':m≠0:=by omega
       clear t2;go_enter Tryz.func213,Tryz.ntmps213;go_wp2_with fail;refine (HG.out _).mono ?_;rintro e w1 ⟨rfl,rfl⟩;go_wp2_with fail;go_ret;exact ⟨zaa (by first | exact HR.out.symm | (rw [HR.out];first | (simp;omega) | (simp [*];done))),al2 _ _ _⟩
   . have HR:Hid (za2 c (.mk op n m at_ args)=false):=by show _=_;rw [HQ.out];simp [*]
     have t':n≠0:=by omega
     clear t3;go_enter Tryz.func213,Tryz.ntmps213;go_wp2_with fail;refine (HG.out _).mono ?_;rintro e w1 ⟨rfl,rfl⟩;go_wp2_with fail;go_ret;exact ⟨zaa (by first | exact HR.out.symm | (rw [HR.out];first | (simp;omega) | (simp [*];done))),al2 _ _ _⟩
 . have HR:Hid (za2 c (.mk op n m at_ args)=false):=by show _=_;rw [HQ.out];simp [*]
   have t':(args.length:Int)≠g:=by omega
   clear t4;go_enter Tryz.func213,Tryz.ntmps213;go_wp2_with fail;refine (HG.out _).mono ?_;rintro e w1 ⟨rfl,rfl⟩;go_wp2_with fail;go_ret;exact ⟨zaa (by first | exact HR.out.symm | (rw [HR.out];first | (simp;omega) | (simp [*];done))),al2 _ _ _⟩
theorem zp7 (c:Ck) (s:ByteArray) (x1:OA) (y1:Nat) (x2:OA) (y2:Nat) (x3:OA) (n3 y3:Nat) (iv:Value) (x:Ac) (aa:OA) (cp:Nat) (ab:OA) (cb:Nat) (ao:OA) (co:Nat) (w:World) (hC:CkAt w c (.agg #[.string s,.slice x1 c.uses y1,.int .i64 c.data,.slice x2 c.parts.length y2,.slice x3 n3 y3,iv,.int .i64 c.locals])) (hm:(Lit.int .i64 x.m).wf=true) (ha:(Lit.int .i64 x.at_).wf=true) (hl:x.args.length<=17592186044416) :
 Calls Tryz.prog 169 #[.agg #[.string s,.slice x1 c.uses y1,.int .i64 c.data,.slice x2 c.parts.length y2,.slice x3 n3 y3,iv,.int .i64 c.locals],.agg #[.int .i64 x.op,.int .i64 x.n,.int .i64 x.m,.int .i64 x.at_,.slice aa x.args.length cp,.slice ab x.body.length cb,.slice ao x.other.length co]] w fun e w'=>e = .returned (.bool (zcc c x))/\Below w.heap.size w w':=by
 obtain ⟨op,n,m,at_,args,body,other⟩:=x;simp only [Ac.op,Ac.n,Ac.m,Ac.at_,Ac.args,Ac.body,Ac.other] at *;have HC:=hid hC;have HM:=hid hm;have HA:=hid ha;clear hC hm ha
 by_cases o1:op=1
 . subst o1
   by_cases om:m = -1
   . subst om
     by_cases t2:args.length=1
     . by_cases t1:n=0
       . have HR:Hid (zcc c (.mk 1 n (-1) at_ args body other)=zwd c at_):=by show _=_;unfold zcc;simp only [Ac.op,Ac.n,Ac.m,Ac.at_,Ac.args];simp [*]
         go_enter Tryz.func169,Tryz.ntmps169;go_wp2_with fail;refine (zg8 c s x1 y1 x2 y2 x3 n3 y3 iv at_ _).mono ?_;rintro e w1 ⟨rfl,hb1⟩;have HB1:=hid (thenB (al2 w _ _) hb1);clear hb1;go_wp2_with fail;go_ret;exact ⟨zaa (by first | exact HR.out.symm | (rw [HR.out];first | (simp;omega) | (simp [*];done))),HB1.out⟩
       . have HR:Hid (zcc c (.mk 1 n (-1) at_ args body other)=false):=by show _=_;unfold zcc;simp only [Ac.op,Ac.n,Ac.m,Ac.at_,Ac.args];simp [*]
         have t':n≠0:=by omega
         clear t1;go_enter Tryz.func169,Tryz.ntmps169;go_wp2_with fail;go_ret;exact ⟨zaa (by first | exact HR.out.symm | (rw [HR.out];first | (simp;omega) | (simp [*];done))),al2 _ _ _⟩
     . have HR:Hid (zcc c (.mk 1 n (-1) at_ args body other)=false):=by show _=_;unfold zcc;simp only [Ac.op,Ac.n,Ac.m,Ac.at_,Ac.args];simp [*]
       have t':args.length≠1:=by omega
       clear t2;go_enter Tryz.func169,Tryz.ntmps169;go_wp2_with fail;go_ret;exact ⟨zaa (by first | exact HR.out.symm | (rw [HR.out];first | (simp;omega) | (simp [*];done))),al2 _ _ _⟩
   . by_cases t2:args.length=1
     . by_cases t1:n=0
       . have HR:Hid (zcc c (.mk 1 n m at_ args body other)=numB c m at_ 1):=by show _=_;unfold zcc;simp only [Ac.op,Ac.n,Ac.m,Ac.at_,Ac.args];simp [*]
         go_enter Tryz.func169,Tryz.ntmps169;go_wp2_with fail;refine (HC.out.num _ (al2 _ _ _) m at_ 1 HM.out HA.out (by decide) (by decide)).mono ?_;rintro e w1 ⟨rfl,hb1⟩;have HB1:=hid (thenB (al2 w _ _) hb1);clear hb1;go_wp2_with fail;go_ret;exact ⟨zaa (by first | exact HR.out.symm | (rw [HR.out];first | (simp;omega) | (simp [*];done))),HB1.out⟩
       . have HR:Hid (zcc c (.mk 1 n m at_ args body other)=false):=by show _=_;unfold zcc;simp only [Ac.op,Ac.n,Ac.m,Ac.at_,Ac.args];simp [*]
         have t':n≠0:=by omega
         clear t1;go_enter Tryz.func169,Tryz.ntmps169;go_wp2_with fail;go_ret;exact ⟨zaa (by first | exact HR.out.symm | (rw [HR.out];first | (simp;omega) | (simp [*];done))),al2 _ _ _⟩
     . have HR:Hid (zcc c (.mk 1 n m at_ args body other)=false):=by show _=_;unfold zcc;simp only [Ac.op,Ac.n,Ac.m,Ac.at_,Ac.args];simp [*]
       have t':args.length≠1:=by omega
       clear t2;go_enter Tryz.func169,Tryz.ntmps169;go_wp2_with fail;go_ret;exact ⟨zaa (by first | exact HR.out.symm | (rw [HR.out];first | (simp;omega) | (simp [*];done))),al2 _ _ _⟩
 by_cases o2:op=2
 . subst o2
   by_cases t1:args.length=2
   . have HR:Hid (zcc c (.mk 2 n m at_ args body other)=zyw c n m at_):=by show _=_;unfold zcc;simp only [Ac.op,Ac.n,Ac.m,Ac.at_,Ac.args];simp [*]
     go_enter Tryz.func169,Tryz.ntmps169;go_wp2_with fail;refine (zg6 c s x1 y1 x2 y2 x3 n3 y3 iv n m at_ _ (HC.out.later (al2 _ _ _)) HM.out HA.out).mono ?_;rintro e w1 ⟨rfl,hb1⟩;have HB1:=hid (thenB (al2 w _ _) hb1);clear hb1;go_wp2_with fail;go_ret;exact ⟨zaa (by first | exact HR.out.symm | (rw [HR.out];first | (simp;omega) | (simp [*];done))),HB1.out⟩
   . have HR:Hid (zcc c (.mk 2 n m at_ args body other)=false):=by show _=_;unfold zcc;simp only [Ac.op,Ac.n,Ac.m,Ac.at_,Ac.args];simp [*]
     have t':args.length≠2:=by omega
     clear t1;go_enter Tryz.func169,Tryz.ntmps169;go_wp2_with fail;go_ret;exact ⟨zaa (by first | exact HR.out.symm | (rw [HR.out];first | (simp;omega) | (simp [*];done))),al2 _ _ _⟩
 by_cases o3:op=3
 . subst o3
   by_cases t1:n=0
   . have HR:Hid (zcc c (.mk 3 n m at_ args body other)=zjr c m at_ args.length):=by show _=_;unfold zcc;simp only [Ac.op,Ac.n,Ac.m,Ac.at_,Ac.args];simp [*]
     go_enter Tryz.func169,Tryz.ntmps169;go_wp2_with fail;refine (HC.out.prt _ (al2 _ _ _) m at_ args.length HM.out HA.out hl).mono ?_;rintro e w1 ⟨rfl,hb1⟩;have HB1:=hid (thenB (al2 w _ _) hb1);clear hb1;go_wp2_with fail;go_ret;exact ⟨zaa (by first | exact HR.out.symm | (rw [HR.out];first | (simp;omega) | (simp [*];done))),HB1.out⟩
   . have HR:Hid (zcc c (.mk 3 n m at_ args body other)=false):=by show _=_;unfold zcc;simp only [Ac.op,Ac.n,Ac.m,Ac.at_,Ac.args];simp [*]
     have t':n≠0:=by omega
     clear t1;go_enter Tryz.func169,Tryz.ntmps169;go_wp2_with fail;go_ret;exact ⟨zaa (by first | exact HR.out.symm | (rw [HR.out];first | (simp;omega) | (simp [*];done))),al2 _ _ _⟩
 by_cases o4:op=4
 . subst o4
   by_cases t4:args.length=1
   . by_cases t3:n=0
     . by_cases t2:m=0
       . by_cases t1:at_=0
         . have HR:Hid (zcc c (.mk 4 n m at_ args body other)=true):=by show _=_;unfold zcc;simp only [Ac.op,Ac.n,Ac.m,Ac.at_,Ac.args];simp [*]
           go_enter Tryz.func169,Tryz.ntmps169;go_wp2_with fail;go_ret;exact ⟨zaa (by first | exact HR.out.symm | (rw [HR.out];first | (simp;omega) | (simp [*];done))),al2 _ _ _⟩
         . have HR:Hid (zcc c (.mk 4 n m at_ args body other)=false):=by show _=_;unfold zcc;simp only [Ac.op,Ac.n,Ac.m,Ac.at_,Ac.args];simp [*]
           have t':at_≠0:=by omega
           clear t1;go_enter Tryz.func169,Tryz.ntmps169;go_wp2_with fail;go_ret;exact ⟨zaa (by first | exact HR.out.symm | (rw [HR.out];first | (simp;omega) | (simp [*];done))),al2 _ _ _⟩
       . have HR:Hid (zcc c (.mk 4 n m at_ args body other)=false):=by show _=_;unfold zcc;simp only [Ac.op,Ac.n,Ac.m,Ac.at_,Ac.args];simp [*]
         have t':m≠0:=by omega
         clear t2;go_enter Tryz.func169,Tryz.ntmps169;go_wp2_with fail;go_ret;exact ⟨zaa (by first | exact HR.out.symm | (rw [HR.out];first | (simp;omega) | (simp [*];done))),al2 _ _ _⟩
     . have HR:Hid (zcc c (.mk 4 n m at_ args body other)=false):=by show _=_;unfold zcc;simp only [Ac.op,Ac.n,Ac.m,Ac.at_,Ac.args];simp [*]
       have t':n≠0:=by omega
       clear t3;go_enter Tryz.func169,Tryz.ntmps169;go_wp2_with fail;go_ret;exact ⟨zaa (by first | exact HR.out.symm | (rw [HR.out];first | (simp;omega) | (simp [*];done))),al2 _ _ _⟩
   . have HR:Hid (zcc c (.mk 4 n m at_ args body other)=false):=by show _=_;unfold zcc;simp only [Ac.op,Ac.n,Ac.m,Ac.at_,Ac.args];simp [*]
     have t':args.length≠1:=by omega
     clear t4;go_enter Tryz.func169,Tryz.ntmps169;go_wp2_with fail;go_ret;exact ⟨zaa (by first | exact HR.out.symm | (rw [HR.out];first | (simp;omega) | (simp [*];done))),al2 _ _ _⟩
 by_cases o5:op=5
 . subst o5
   by_cases t4:args.length=1
   . by_cases t3:n=0
     . by_cases t2:m=0
       . by_cases t1:at_=0
         . have HR:Hid (zcc c (.mk 5 n m at_ args body other)=true):=by show _=_;unfold zcc;simp only [Ac.op,Ac.n,Ac.m,Ac.at_,Ac.args];simp [*]
           go_enter Tryz.func169,Tryz.ntmps169;go_wp2_with fail;go_ret;exact ⟨zaa (by first | exact HR.out.symm | (rw [HR.out];first | (simp;omega) | (simp [*];done))),al2 _ _ _⟩
         . have HR:Hid (zcc c (.mk 5 n m at_ args body other)=false):=by show _=_;unfold zcc;simp only [Ac.op,Ac.n,Ac.m,Ac.at_,Ac.args];simp [*]
           have t':at_≠0:=by omega
           clear t1;go_enter Tryz.func169,Tryz.ntmps169;go_wp2_with fail;go_ret;exact ⟨zaa (by first | exact HR.out.symm | (rw [HR.out];first | (simp;omega) | (simp [*];done))),al2 _ _ _⟩
       . have HR:Hid (zcc c (.mk 5 n m at_ args body other)=false):=by show _=_;unfold zcc;simp only [Ac.op,Ac.n,Ac.m,Ac.at_,Ac.args];simp [*]
         have t':m≠0:=by omega
         clear t2;go_enter Tryz.func169,Tryz.ntmps169;go_wp2_with fail;go_ret;exact ⟨zaa (by first | exact HR.out.symm | (rw [HR.out];first | (simp;omega) | (simp [*];done))),al2 _ _ _⟩
     . have HR:Hid (zcc c (.mk 5 n m at_ args body other)=false):=by show _=_;unfold zcc;simp only [Ac.op,Ac.n,Ac.m,Ac.at_,Ac.args];simp [*]
       have t':n≠0:=by omega
       clear t3;go_enter Tryz.func169,Tryz.ntmps169;go_wp2_with fail;go_ret;exact ⟨zaa (by first | exact HR.out.symm | (rw [HR.out];first | (simp;omega) | (simp [*];done))),al2 _ _ _⟩
   . have HR:Hid (zcc c (.mk 5 n m at_ args body other)=false):=by show _=_;unfold zcc;simp only [Ac.op,Ac.n,Ac.m,Ac.at_,Ac.args];simp [*]
     have t':args.length≠1:=by omega
     clear t4;go_enter Tryz.func169,Tryz.ntmps169;go_wp2_with fail;go_ret;exact ⟨zaa (by first | exact HR.out.symm | (rw [HR.out];first | (simp;omega) | (simp [*];done))),al2 _ _ _⟩
 by_cases o6:op=6
 . subst o6
   by_cases t4:args.length=1
   . by_cases t3:n=0
     . by_cases t2:m=0
       . by_cases t1:at_=0
         . have HR:Hid (zcc c (.mk 6 n m at_ args body other)=true):=by show _=_;unfold zcc;simp only [Ac.op,Ac.n,Ac.m,Ac.at_,Ac.args];simp [*]
           go_enter Tryz.func169,Tryz.ntmps169;go_wp2_with fail;go_ret;exact ⟨zaa (by first | exact HR.out.symm | (rw [HR.out];first | (simp;omega) | (simp [*];done))),al2 _ _ _⟩
         . have HR:Hid (zcc c (.mk 6 n m at_ args body other)=false):=by show _=_;unfold zcc;simp only [Ac.op,Ac.n,Ac.m,Ac.at_,Ac.args];simp [*]
           have t':at_≠0:=by omega
           clear t1;go_enter Tryz.func169,Tryz.ntmps169;go_wp2_with fail;go_ret;exact ⟨zaa (by first | exact HR.out.symm | (rw [HR.out];first | (simp;omega) | (simp [*];done))),al2 _ _ _⟩
       . have HR:Hid (zcc c (.mk 6 n m at_ args body other)=false):=by show _=_;unfold zcc;simp only [Ac.op,Ac.n,Ac.m,Ac.at_,Ac.args];simp [*]
         have t':m≠0:=by omega
         clear t2;go_enter Tryz.func169,Tryz.ntmps169;go_wp2_with fail;go_ret;exact ⟨zaa (by first | exact HR.out.symm | (rw [HR.out];first | (simp;omega) | (simp [*];done))),al2 _ _ _⟩
     . have HR:Hid (zcc c (.mk 6 n m at_ args body other)=false):=by show _=_;unfold zcc;simp only [Ac.op,Ac.n,Ac.m,Ac.at_,Ac.args];simp [*]
       have t':n≠0:=by omega
       clear t3;go_enter Tryz.func169,Tryz.ntmps169;go_wp2_with fail;go_ret;exact ⟨zaa (by first | exact HR.out.symm | (rw [HR.out];first | (simp;omega) | (simp [*];done))),al2 _ _ _⟩
   . have HR:Hid (zcc c (.mk 6 n m at_ args body other)=false):=by show _=_;unfold zcc;simp only [Ac.op,Ac.n,Ac.m,Ac.at_,Ac.args];simp [*]
     have t':args.length≠1:=by omega
     clear t4;go_enter Tryz.func169,Tryz.ntmps169;go_wp2_with fail;go_ret;exact ⟨zaa (by first | exact HR.out.symm | (rw [HR.out];first | (simp;omega) | (simp [*];done))),al2 _ _ _⟩
 by_cases o7:op=7
 . subst o7
   by_cases t4:args.length=1
   . by_cases t3:n=0
     . by_cases t2:m=0
       . by_cases t1:at_=0
         . have HR:Hid (zcc c (.mk 7 n m at_ args body other)=true):=by show _=_;unfold zcc;simp only [Ac.op,Ac.n,Ac.m,Ac.at_,Ac.args];simp [*]
           go_enter Tryz.func169,Tryz.ntmps169;go_wp2_with fail;go_ret;exact ⟨zaa (by first | exact HR.out.symm | (rw [HR.out];first | (simp;omega) | (simp [*];done))),al2 _ _ _⟩
         . have HR:Hid (zcc c (.mk 7 n m at_ args body other)=false):=by show _=_;unfold zcc;simp only [Ac.op,Ac.n,Ac.m,Ac.at_,Ac.args];simp [*]
           have t':at_≠0:=by omega
           clear t1;go_enter Tryz.func169,Tryz.ntmps169;go_wp2_with fail;go_ret;exact ⟨zaa (by first | exact HR.out.symm | (rw [HR.out];first | (simp;omega) | (simp [*];done))),al2 _ _ _⟩
       . have HR:Hid (zcc c (.mk 7 n m at_ args body other)=false):=by show _=_;unfold zcc;simp only [Ac.op,Ac.n,Ac.m,Ac.at_,Ac.args];simp [*]
         have t':m≠0:=by omega
         clear t2;go_enter Tryz.func169,Tryz.ntmps169;go_wp2_with fail;go_ret;exact ⟨zaa (by first | exact HR.out.symm | (rw [HR.out];first | (simp;omega) | (simp [*];done))),al2 _ _ _⟩
     . have HR:Hid (zcc c (.mk 7 n m at_ args body other)=false):=by show _=_;unfold zcc;simp only [Ac.op,Ac.n,Ac.m,Ac.at_,Ac.args];simp [*]
       have t':n≠0:=by omega
       clear t3;go_enter Tryz.func169,Tryz.ntmps169;go_wp2_with fail;go_ret;exact ⟨zaa (by first | exact HR.out.symm | (rw [HR.out];first | (simp;omega) | (simp [*];done))),al2 _ _ _⟩
   . have HR:Hid (zcc c (.mk 7 n m at_ args body other)=false):=by show _=_;unfold zcc;simp only [Ac.op,Ac.n,Ac.m,Ac.at_,Ac.args];simp [*]
     have t':args.length≠1:=by omega
     clear t4;go_enter Tryz.func169,Tryz.ntmps169;go_wp2_with fail;go_ret;exact ⟨zaa (by first | exact HR.out.symm | (rw [HR.out];first | (simp;omega) | (simp [*];done))),al2 _ _ _⟩
 have HR:Hid (zcc c (.mk op n m at_ args body other)=false):=by
  show _=_;unfold zcc;exact (if_neg o1).trans ((if_neg o2).trans ((if_neg o3).trans (if_neg (by show ¬ (4<=op/\op<=7);omega))))
 go_enter Tryz.func169,Tryz.ntmps169;go_wp2_with fail;go_ret;exact ⟨zaa (by first | exact HR.out.symm | (rw [HR.out];first | (simp;omega) | (simp [*];done))),al2 _ _ _⟩
set_option maxHeartbeats 1600000
theorem zhu (c:Ck) (s:ByteArray) (x1:OA) (y1:Nat) (x2:OA) (y2:Nat) (x3:OA) (n3 y3:Nat) (iv:Value) (a:OA) (cap:Nat) (deep:Int) (w:World) :
 Calls Tryz.prog 170 #[.agg #[.string s,.slice x1 c.uses y1,.int .i64 c.data,.slice x2 c.parts.length y2,.slice x3 n3 y3,iv,.int .i64 c.locals],.slice a 0 cap,.int .i64 deep] w fun e w'=>e = .returned (.bool true)/\Below w.heap.size w w':=by
 go_enter Tryz.func170,Tryz.ntmps170;go_wp2_with fail
 go_loopw [18] (fun i wr=>i = .int .i64 0/\Below w.heap.size w wr) (fun _ _=>0)
 case atStart=>exact ⟨rfl,al1 _ _⟩
 case round=>
  obtain ⟨rfl,hb⟩:=hrel;have HB:=hid hb;clear hb;go_wp2_with fail;go_ret;exact ⟨rfl,HB.out⟩
theorem zl7 (c:Ck) (s:ByteArray) (x1:OA) (y1:Nat) (x2:OA) (y2:Nat) (x3:OA) (n3 y3:Nat) (iv:Value) (a:OA) (n cap:Nat) (w:World) (hn:0<n) :
 Calls Tryz.prog 170 #[.agg #[.string s,.slice x1 c.uses y1,.int .i64 c.data,.slice x2 c.parts.length y2,.slice x3 n3 y3,iv,.int .i64 c.locals],.slice a n cap,.int .i64 7] w fun e w'=>e = .returned (.bool false)/\Below w.heap.size w w':=by
 go_enter Tryz.func170,Tryz.ntmps170;go_wp2_with fail;go_ret;exact ⟨rfl,al1 _ _⟩
theorem z0j (c:Ck) (k:Nat):zgh c k []=true:=by cases k<;>simp [zgh]
theorem zhv (c:Ck) (s:ByteArray) (x1:OA) (y1:Nat) (x2:OA) (y2:Nat) (x3:OA) (n3 y3:Nat) (iv:Value):∀ (k:Nat),k<=6->∀ (l:List Nd) (A:Nat->Prop) (a:OA) (cap:Nat) (deep:Int) (w:World),deep=7 - (k:Int)->DAt w A a l.length (zdr l)->CkAt w c (.agg #[.string s,.slice x1 c.uses y1,.int .i64 c.data,.slice x2 c.parts.length y2,.slice x3 n3 y3,iv,.int .i64 c.locals])->
 Calls Tryz.prog 170 #[.agg #[.string s,.slice x1 c.uses y1,.int .i64 c.data,.slice x2 c.parts.length y2,.slice x3 n3 y3,iv,.int .i64 c.locals],.slice a l.length cap,.int .i64 deep] w fun e w'=>e = .returned (.bool (zgh c k l))/\Below w.heap.size w w'
 | 0,_,l,A,a,cap,deep,w,hd,_,_=>by
   obtain rfl:deep=7:=by omega
   rcases vce l.length with h0 | h0
   . obtain rfl:=vao h0
     exact zhu c s x1 y1 x2 y2 x3 n3 y3 iv a cap 7 w
   . have:zgh c 0 l=false:=by simp only [zgh];exact decide_eq_false (by omega)
     rw [this];exact zl7 c s x1 y1 x2 y2 x3 n3 y3 iv a l.length cap w h0
 | k + 1, hk,l,A,a,cap,deep,w,hd,hD,hC=>by
   have HI:=hid (fun (l:List Nd) (A:Nat->Prop) (a:OA) (cap:Nat) (w:World)=>zhv c s x1 y1 x2 y2 x3 n3 y3 iv k (by omega) l A a cap (deep+1) w (by omega))
   rcases vce l.length with h0 | h0
   . obtain rfl:=vao h0
     rw [z0j];exact zhu c s x1 y1 x2 y2 x3 n3 y3 iv a cap deep w
   have HR:Hid (zgh c (k+1) l=l.all (fun x=>za2 c x&&zgh c k x.args)):=by show _=_;simp [zgh]
   have hbd:=hD.bound
   have hd1:1<=deep:=by omega
   have hd6:deep<=6:=by omega
   have HD:=hid hD;have HC:=hid hC;clear hD hC hd;go_enter Tryz.func170,Tryz.ntmps170;go_wp2_with fail
   go_loopw [18] (fun i wr=>∃ j:Nat,j<=l.length/\i = .int .i64 j/\(l.take j).all (fun x=>za2 c x&&zgh c k x.args)=true/\Below w.heap.size w wr/\wr.heap[w.heap.size]? = some (.cells #[.string s,.slice x1 c.uses y1,.int .i64 c.data,.slice x2 c.parts.length y2,.slice x3 n3 y3,iv,.int .i64 c.locals] 206)) (fun i _=>l.length - (intOf i).toNat)
   case atStart=>exact ⟨0,vae _,rfl,rfl,al1 _ _,heap_newP _ _⟩
   case round=>
    obtain ⟨j,hj,rfl,hall,hb,hB⟩:=hrel;obtain ⟨q0,q1,q2,q3,q4,q5,q6,qz⟩:=zai hB;have HB:=hid hb;have HX:=hid hB;have HL:=hid hall;clear hall hB hb
    by_cases hlt:j<l.length
    . obtain ⟨b,off,aa,cp,rfl,hx⟩:=(HD.out.later HB.out).nd j hlt
      have HF:=hid (fun (h:(za2 c l[j]&&zgh c k l[j].args)=false)=>all_not l (fun x=>za2 c x&&zgh c k x.args) j hlt h);have HT:=hid (fun (h:(za2 c l[j]&&zgh c k l[j].args)=true)=>(by rw [all_snoc l _ j hlt,HL.out,h];rfl:(l.take (j+1)).all (fun x=>za2 c x&&zgh c k x.args)=true));obtain ⟨hbl,x0,x1',x2',x3',x4,hargs,_,_,hm,hat⟩:=hx;have HA:=hid hargs;have hal:=hargs.bound;have HM:=hid hm;have HAt:=hid hat;clear hargs hm hat;generalize l[j]=x at *;go_wp2_with fail;refine (zoh c s x1 y1 x2 y2 x3 n3 y3 iv x aa cp _ (HC.out.later (thenB HB.out (al1 _ _))) HM.out HAt.out hal).mono ?_
      cases h1:za2 c x with
      | false=>
        rintro e w3 ⟨rfl,hb3⟩;have HB3:=hid (thenB HB.out (thenB (al1 _ _) hb3));have HF':=hid (HF.out (by rw [h1];rfl));clear hb3;go_wp2_with fail;go_ret;exact ⟨zaa (by rw [HR.out,HF'.out]),HB3.out⟩
      | true=>
        rintro e w3 ⟨rfl,hb3⟩;have HB3:=hid (thenB (al1 wr _) hb3);have p1:=(HB3.out.block _ (zab HX.out)).trans HX.out;have p2:=(hb3.block _ (by simp)).trans (heap_newP wr (.cells #[.int .i64 x.op,.int .i64 x.n,.int .i64 x.m,.int .i64 x.at_,.slice aa x.args.length cp] 253));have HX3:=hid p1;clear q0 q1 q2 q3 q4 q5 q6 qz x0 x1' x2' x3' x4 hbl;obtain ⟨q0,q1,q2,q3,q4,q5,q6,qz⟩:=zai p1;obtain ⟨z0,z1,z2,z3,z4,_⟩:=zad p2;have zz:=zab p2;clear hb3 p1 p2;go_wp2_with fail;refine (HI.out x.args A aa cp _ (HA.out.later HB3.out) (HC.out.later (thenB HB.out HB3.out))).mono ?_
        cases h2:zgh c k x.args with
        | false=>
          rintro e w4 ⟨rfl,hb4⟩;have HB4:=hid (thenB (thenB HB.out HB3.out) hb4);have HF':=hid (HF.out (by rw [h1,h2];rfl));clear hb4;go_wp2_with fail;go_ret;exact ⟨zaa (by rw [HR.out,HF'.out]),HB4.out⟩
        | true=>
          rintro e w4 ⟨rfl,hb4⟩;have HB4:=hid (thenB (thenB HB.out HB3.out) hb4);have HX4:=hid ((hb4.block _ (zab HX3.out)).trans HX3.out);have HT':=hid (HT.out (by rw [h1,h2];rfl));clear hb4;go_wp2_with fail;go_roundw
          case rel=>exact ⟨j+1,by omega,by go_num,HT'.out,HB4.out,HX4.out⟩
          case measure=>simp [intOf];omega
    . have HT:Hid (l.all (fun x=>za2 c x&&zgh c k x.args)=true):=zc3 HL.out hlt
      go_wp2_with fail;go_ret;exact ⟨zaa (by rw [HR.out,HT.out]),HB.out⟩
set_option maxHeartbeats 3200000
def zzy (c:Ck) (k:Nat) (a:Ac):Bool:=if a.op=4 then ze0 c k a.body&&ze0 c k a.other else if a.op=5 then ze0 c k a.body&&decide (a.other.length=0) else decide (a.body.length=0)&&decide (a.other.length=0)
def zoi (c:Ck) (cv:Value) (k:Nat):Prop:=∀ (l:List Ac) (A:Nat->Prop) (a:OA) (cap:Nat) (deep:Int) (w:World),deep=7 - (k:Int)->DAt w A a l.length (zed l)->CkAt w c cv->
    Calls Tryz.prog 128 #[cv,.slice a l.length cap,.int .i64 deep] w fun e w'=>e = .returned (.bool (ze0 c k l))/\Below w.heap.size w w'
theorem zl8 (c:Ck) (s:ByteArray) (x1:OA) (y1:Nat) (x2:OA) (y2:Nat) (x3:OA) (n3 y3:Nat) (iv:Value) (k:Nat) (hk:k<=6) (ih:zoi c (.agg #[.string s,.slice x1 c.uses y1,.int .i64 c.data,.slice x2 c.parts.length y2,.slice x3 n3 y3,iv,.int .i64 c.locals]) k) (x:Ac) (A:Nat->Prop) (aa:OA) (cp:Nat) (ab:OA) (cb:Nat) (ao:OA) (co:Nat) (deep:Int) (w:World) (hd:deep=7 - (k:Int)) (hB:DAt w A ab x.body.length (zed x.body)) (hO:DAt w A ao x.other.length (zed x.other)) (hC:CkAt w c (.agg #[.string s,.slice x1 c.uses y1,.int .i64 c.data,.slice x2 c.parts.length y2,.slice x3 n3 y3,iv,.int .i64 c.locals])) :
 Calls Tryz.prog 171 #[.agg #[.string s,.slice x1 c.uses y1,.int .i64 c.data,.slice x2 c.parts.length y2,.slice x3 n3 y3,iv,.int .i64 c.locals],.agg #[.int .i64 x.op,.int .i64 x.n,.int .i64 x.m,.int .i64 x.at_,.slice aa x.args.length cp,.slice ab x.body.length cb,.slice ao x.other.length co],.int .i64 deep] w fun e w'=>e = .returned (.bool (zzy c k x))/\Below w.heap.size w w':=by
 have HI:=hid (fun l A a cap w=>ih l A a cap deep w hd);have hbb:=hB.bound;have hob:=hO.bound;have HB:=hid hB;have HO:=hid hO;have HC:=hid hC;clear ih hB hO hC hd
 by_cases o4:x.op=4
 . have HR:Hid (zzy c k x=(ze0 c k x.body&&ze0 c k x.other)):=if_pos o4
   go_enter Tryz.func171,Tryz.ntmps171;go_wp2_with fail;refine (HI.out x.body A ab cb _ (HB.out.later (al2 _ _ _)) (HC.out.later (al2 _ _ _))).mono ?_
   cases h1:ze0 c k x.body with
   | false=>
     rintro e w3 ⟨rfl,hb3⟩;have HB3:=hid (thenB (al2 w _ _) hb3);clear hb3;go_wp2_with fail;go_ret;exact ⟨zaa (by rw [HR.out,h1];rfl),HB3.out⟩
   | true=>
     rintro e w3 ⟨rfl,hb3⟩;have HB3:=hid (thenB (al2 w _ _) hb3);have p1:=(hb3.block w.heap.size (by simp;omega)).trans (zae (heap_newP w (.cells #[.string s,.slice x1 c.uses y1,.int .i64 c.data,.slice x2 c.parts.length y2,.slice x3 n3 y3,iv,.int .i64 c.locals] 206)));have p2:=(hb3.block (w.heap.size+1) (by simp)).trans (z5e w _ _);obtain ⟨q0,q1,q2,q3,q4,q5,q6,qz⟩:=zai p1;obtain ⟨z0,z1,z2,z3,z4,z5,z6,zz⟩:=zai p2;clear hb3 p1 p2;go_wp2_with fail;refine (HI.out x.other A ao co _ (HO.out.later HB3.out) (HC.out.later HB3.out)).mono ?_;rintro e w4 ⟨rfl,hb4⟩;have HB4:=hid (thenB HB3.out hb4);clear hb4;go_wp2_with fail;go_ret;exact ⟨zaa (by rw [HR.out,h1];rfl),HB4.out⟩
 by_cases o5:x.op=5
 . have HR:Hid (zzy c k x=(ze0 c k x.body&&decide (x.other.length=0))):=(if_neg o4).trans (if_pos o5)
   go_enter Tryz.func171,Tryz.ntmps171;go_wp2_with fail;refine (HI.out x.body A ab cb _ (HB.out.later (al2 _ _ _)) (HC.out.later (al2 _ _ _))).mono ?_
   cases h1:ze0 c k x.body with
   | false=>
     rintro e w3 ⟨rfl,hb3⟩;have HB3:=hid (thenB (al2 w _ _) hb3);clear hb3;go_wp2_with fail;go_ret;exact ⟨zaa (by rw [HR.out,h1];rfl),HB3.out⟩
   | true=>
     rintro e w3 ⟨rfl,hb3⟩;have HB3:=hid (thenB (al2 w _ _) hb3);have p2:=(hb3.block (w.heap.size+1) (by simp)).trans (z5e w _ _);obtain ⟨z0,z1,z2,z3,z4,z5,z6,zz⟩:=zai p2;clear hb3 p2
     by_cases h0:x.other.length=0
     . go_wp2_with fail
       go_ret;exact ⟨zaa (by rw [HR.out,h1,decide_eq_true h0];rfl),HB3.out⟩
     . have h0':x.other.length≠0:=h0
       have HR':Hid (zzy c k x=false):=by show _=_;rw [HR.out,h1,decide_eq_false h0];rfl
       clear h0;go_wp2_with fail;go_ret;exact ⟨zaa (by first | exact HR'.out.symm | (rw [HR'.out];first | (simp;omega) | (simp [*];done))),HB3.out⟩
 . have HR:Hid (zzy c k x=(decide (x.body.length=0)&&decide (x.other.length=0))):=(if_neg o4).trans (if_neg o5)
   by_cases hb0:x.body.length=0
   . by_cases h0:x.other.length=0
     . have HR':Hid (zzy c k x=true):=by show _=_;rw [HR.out,decide_eq_true h0,decide_eq_true hb0];rfl
       go_enter Tryz.func171,Tryz.ntmps171;go_wp2_with fail;go_ret;exact ⟨zaa (by first | exact HR'.out.symm | (rw [HR'.out];first | (simp;omega) | (simp [*];done))),al2 _ _ _⟩
     . have h0':x.other.length≠0:=h0
       have HR':Hid (zzy c k x=false):=by show _=_;rw [HR.out,decide_eq_false h0,decide_eq_true hb0];rfl
       clear h0;go_enter Tryz.func171,Tryz.ntmps171;go_wp2_with fail;go_ret;exact ⟨zaa (by first | exact HR'.out.symm | (rw [HR'.out];first | (simp;omega) | (simp [*];done))),al2 _ _ _⟩
   . have h0':x.body.length≠0:=hb0
     have HR':Hid (zzy c k x=false):=by show _=_;rw [HR.out,decide_eq_false hb0];rfl
     clear hb0;go_enter Tryz.func171,Tryz.ntmps171;go_wp2_with fail;go_ret;exact ⟨zaa (by first | exact HR'.out.symm | (rw [HR'.out];first | (simp;omega) | (simp [*];done))),al2 _ _ _⟩
theorem zko (c:Ck) (s:ByteArray) (x1:OA) (y1:Nat) (x2:OA) (y2:Nat) (x3:OA) (n3 y3:Nat) (iv:Value) (a:OA) (n cap:Nat) (w:World) :
 Calls Tryz.prog 128 #[.agg #[.string s,.slice x1 c.uses y1,.int .i64 c.data,.slice x2 c.parts.length y2,.slice x3 n3 y3,iv,.int .i64 c.locals],.slice a n cap,.int .i64 7] w fun e w'=>e = .returned (.bool false)/\Below w.heap.size w w':=by
 go_enter Tryz.func128,Tryz.ntmps128;go_wp2_with fail;go_ret;exact ⟨rfl,al1 _ _⟩
theorem zkp (c:Ck) (s:ByteArray) (x1:OA) (y1:Nat) (x2:OA) (y2:Nat) (x3:OA) (n3 y3:Nat) (iv:Value) (a:OA) (n cap:Nat) (deep:Int) (w:World) (hd:deep<=6) (hn:10<n) (hn2:n<=17592186044416) :
 Calls Tryz.prog 128 #[.agg #[.string s,.slice x1 c.uses y1,.int .i64 c.data,.slice x2 c.parts.length y2,.slice x3 n3 y3,iv,.int .i64 c.locals],.slice a n cap,.int .i64 deep] w fun e w'=>e = .returned (.bool false)/\Below w.heap.size w w':=by
 go_enter Tryz.func128,Tryz.ntmps128;go_wp2_with fail;go_ret;exact ⟨rfl,al1 _ _⟩
def zwa (c:Ck) (k:Nat) (x:Ac):Bool:=zcc c x&&(zgh c 6 x.args&&zzy c k x)
theorem zp8 (c:Ck) (k:Nat) (l:List Ac):ze0 c (k+1) l=(decide (l.length<=10)&&l.all (zwa c k)):=by
 rw [ze0]
 rfl
theorem zu7 (c:Ck) (s:ByteArray) (x1:OA) (y1:Nat) (x2:OA) (y2:Nat) (x3:OA) (n3 y3:Nat) (iv:Value) (k:Nat) (hk:k+1<=6) (ih:zoi c (.agg #[.string s,.slice x1 c.uses y1,.int .i64 c.data,.slice x2 c.parts.length y2,.slice x3 n3 y3,iv,.int .i64 c.locals]) k):zoi c (.agg #[.string s,.slice x1 c.uses y1,.int .i64 c.data,.slice x2 c.parts.length y2,.slice x3 n3 y3,iv,.int .i64 c.locals]) (k+1):=by
 intro l A a cap deep w hd hD hC;have hbd:=hD.bound
 by_cases h10:10<l.length
 . have:ze0 c (k+1) l=false:=by rw [zp8,decide_eq_false (by omega)];rfl
   rw [this];exact zkp c s x1 y1 x2 y2 x3 n3 y3 iv a l.length cap deep w (by omega) h10 hbd
 have h10':l.length<=10:=by omega
 have HR:Hid (ze0 c (k+1) l=l.all (zwa c k)):=by show _=_;rw [zp8,decide_eq_true h10'];rfl
 have hd1:1<=deep:=by omega
 have hd6:deep<=6:=by omega
 have HI:=hid (fun x A aa cp ab cb ao co w=>zl8 c s x1 y1 x2 y2 x3 n3 y3 iv k (by omega) ih x A aa cp ab cb ao co (deep+1) w (by omega));have HD:=hid hD;have HC:=hid hC;clear hD hC hd h10 ih;go_enter Tryz.func128,Tryz.ntmps128;go_wp2_with fail
 go_loopw [18] (fun i wr=>∃ j:Nat,j<=l.length/\i = .int .i64 j/\(l.take j).all (zwa c k)=true/\Below w.heap.size w wr/\wr.heap[w.heap.size]? = some (.cells #[.string s,.slice x1 c.uses y1,.int .i64 c.data,.slice x2 c.parts.length y2,.slice x3 n3 y3,iv,.int .i64 c.locals] 206)) (fun i _=>l.length - (intOf i).toNat)
 case atStart=>exact ⟨0,vae _,rfl,rfl,al1 _ _,heap_newP _ _⟩
 case round=>
  obtain ⟨j,hj,rfl,hall,hb,hB⟩:=hrel;obtain ⟨q0,q1,q2,q3,q4,q5,q6,qz⟩:=zai hB;have HB:=hid hb;have HX:=hid hB;have HL:=hid hall;clear hall hB hb
  by_cases hlt:j<l.length
  . obtain ⟨b,off,aa,cp,ab,cb,ao,co,rfl,hx⟩:=(HD.out.later HB.out).ac j hlt
    have HF:=hid (fun (h:zwa c k l[j]=false)=>all_not l (zwa c k) j hlt h);have HT:=hid (fun (h:zwa c k l[j]=true)=>(by rw [all_snoc l _ j hlt,HL.out,h];rfl:(l.take (j+1)).all (zwa c k)=true));obtain ⟨hbl,x0,x1',x2',x3',x4,x5,x6,hargs,hbody,hother,_,_,hm,hat⟩:=hx;have hal:=hargs.bound;have HA:=hid hargs;have HBo:=hid hbody;have HOt:=hid hother;have HM:=hid hm;have HAt:=hid hat;clear hargs hbody hother hm hat;generalize l[j]=x at *;go_wp2_with fail;refine (zp7 c s x1 y1 x2 y2 x3 n3 y3 iv x aa cp ab cb ao co _ (HC.out.later (thenB HB.out (al1 _ _))) HM.out HAt.out hal).mono ?_
    cases h1:zcc c x with
    | false=>
      rintro e w3 ⟨rfl,hb3⟩;have HB3:=hid (thenB HB.out (thenB (al1 _ _) hb3));have HF':=hid (HF.out (by unfold zwa;rw [h1];rfl));clear hb3;go_wp2_with fail;go_ret;exact ⟨zaa (by rw [HR.out,HF'.out]),HB3.out⟩
    | true=>
      rintro e w3 ⟨rfl,hb3⟩;have HB3:=hid (thenB (al1 wr _) hb3);have p1:=(HB3.out.block _ (zab HX.out)).trans HX.out;have p2:=(hb3.block _ (by simp)).trans (heap_newP wr (.cells #[.int .i64 x.op,.int .i64 x.n,.int .i64 x.m,.int .i64 x.at_,.slice aa x.args.length cp,.slice ab x.body.length cb,.slice ao x.other.length co] 109));have HX3:=hid p1;have HY3:=hid p2;clear q0 q1 q2 q3 q4 q5 q6 qz x0 x1' x2' x3' x4 x5 x6 hbl;obtain ⟨q0,q1,q2,q3,q4,q5,q6,qz⟩:=zai p1;obtain ⟨z0,z1,z2,z3,z4,z5,z6,zz⟩:=zai p2;clear hb3 p1 p2;go_wp2_with fail;refine (zhv c s x1 y1 x2 y2 x3 n3 y3 iv 6 (by decide) x.args A aa cp 1 _ (by decide) (HA.out.later HB3.out) (HC.out.later (thenB HB.out HB3.out))).mono ?_
      cases h2:zgh c 6 x.args with
      | false=>
        rintro e w4 ⟨rfl,hb4⟩;have HB4:=hid (thenB (thenB HB.out HB3.out) hb4);have HF':=hid (HF.out (by unfold zwa;rw [h1,h2];rfl));clear hb4;go_wp2_with fail;go_ret;exact ⟨zaa (by rw [HR.out,HF'.out]),HB4.out⟩
      | true=>
        rintro e w4 ⟨rfl,hb4⟩;have HB4:=hid (thenB HB3.out hb4);have p1:=(hb4.block _ (zab HX3.out)).trans HX3.out;have p2:=(hb4.block _ (zab HY3.out)).trans HY3.out;have HX4:=hid p1;clear q0 q1 q2 q3 q4 q5 q6 qz z0 z1 z2 z3 z4 z5 z6 zz;obtain ⟨q0,q1,q2,q3,q4,q5,q6,qz⟩:=zai p1;obtain ⟨z0,z1,z2,z3,z4,z5,z6,zz⟩:=zai p2;clear hb4 p1 p2;go_wp2_with fail;refine (HI.out x A aa cp ab cb ao co _ (HBo.out.later HB4.out) (HOt.out.later HB4.out) (HC.out.later (thenB HB.out HB4.out))).mono ?_
        cases h3:zzy c k x with
        | false=>
          rintro e w5 ⟨rfl,hb5⟩;have HB5:=hid (thenB (thenB HB.out HB4.out) hb5);have HF':=hid (HF.out (by unfold zwa;rw [h1,h2,h3];rfl));clear hb5;go_wp2_with fail;go_ret;exact ⟨zaa (by rw [HR.out,HF'.out]),HB5.out⟩
        | true=>
          rintro e w5 ⟨rfl,hb5⟩;have HB5:=hid (thenB (thenB HB.out HB4.out) hb5);have HX5:=hid ((hb5.block _ (zab HX4.out)).trans HX4.out);have HT':=hid (HT.out (by unfold zwa;rw [h1,h2,h3];rfl));clear hb5;go_wp2_with fail;go_roundw
          case rel=>exact ⟨j+1,by omega,by go_num,HT'.out,HB5.out,HX5.out⟩
          case measure=>simp [intOf];omega
  . have HT:Hid (l.all (zwa c k)=true):=zc3 HL.out hlt
    go_wp2_with fail;go_ret;exact ⟨zaa (by rw [HR.out,HT.out]),HB.out⟩
theorem zfa (c:Ck) (s:ByteArray) (x1:OA) (y1:Nat) (x2:OA) (y2:Nat) (x3:OA) (n3 y3:Nat) (iv:Value):∀ (k:Nat),k<=6->zoi c (.agg #[.string s,.slice x1 c.uses y1,.int .i64 c.data,.slice x2 c.parts.length y2,.slice x3 n3 y3,iv,.int .i64 c.locals]) k
 | 0,_=>fun l A a cap deep w hd _ _=>by
   obtain rfl:deep=7:=by omega
   exact zko c s x1 y1 x2 y2 x3 n3 y3 iv a l.length cap w
 | k+1,hk=>zu7 c s x1 y1 x2 y2 x3 n3 y3 iv k hk (zfa c s x1 y1 x2 y2 x3 n3 y3 iv k (by omega))
end Go.Proofs.YtndkhgakfodldaaGreatDoor
