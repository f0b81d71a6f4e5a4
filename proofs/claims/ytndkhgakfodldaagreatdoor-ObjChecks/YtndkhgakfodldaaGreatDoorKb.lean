/-
  Package units: the small looks: places, uses, locals, how many arguments.
-/
import Derived.Test.YtndkhgakfodldaaGreatDoorUi
namespace Go.Proofs.YtndkhgakfodldaaGreatDoor
set_option maxRecDepth 100000
open Go.RowKit Go.Maps Go.WideMaps
set_option linter.unusedSimpArgs false
set_option linter.unusedVariables false
theorem wf_of {n:Int} (h:(Lit.int .i64 n).wf=true) : -9223372036854775808<=n/\n<=9223372036854775807:=by
 simp only [Lit.wf,Bool.and_eq_true,decide_eq_true_eq] at h;exact h
theorem lieIn_any (size at_ n:Int) (w:World) (h1:0<=size) (h2:size<=512) (h3:1<=n) (h4:n<=32) (hw:(Lit.int .i64 at_).wf=true) :
 Calls Tryz.prog 267 #[.int .i64 size,.int .i64 at_,.int .i64 n] w fun e w'=>e = .returned (.bool (lieB size at_ n))/\w'=w:=by
 obtain ⟨g1,g2⟩:=wf_of hw;clear hw
 by_cases ha:0<=at_
 . by_cases hb:at_<=size - n
   . have HR:Hid (lieB size at_ n=true):=decide_eq_true ⟨ha,by omega⟩
     go_enter Tryz.func267,Tryz.ntmps267;go_wp2_with fail;go_ret;exact ⟨ret_bool (by first | exact HR.out.symm | (rw [HR.out];first | (simp;omega) | (simp [*];done))),rfl⟩
   . have HR:Hid (lieB size at_ n=false):=decide_eq_false (by omega)
     have hb':size - n<at_:=by omega
     clear hb;go_enter Tryz.func267,Tryz.ntmps267;go_wp2_with fail;go_ret;exact ⟨ret_bool (by first | exact HR.out.symm | (rw [HR.out];first | (simp;omega) | (simp [*];done))),rfl⟩
 . have HR:Hid (lieB size at_ n=false):=decide_eq_false (by omega)
   have ha':at_<0:=by omega
   clear ha;go_enter Tryz.func267,Tryz.ntmps267;go_wp2_with fail;go_ret;exact ⟨ret_bool (by first | exact HR.out.symm | (rw [HR.out];first | (simp;omega) | (simp [*];done))),rfl⟩
theorem argsOf_any (op:Int) (w:World) :
 Calls Tryz.prog 269 #[.int .i64 op] w fun e w'=>e = .returned (.int .i64 (argsOf op))/\w'=w:=by
 by_cases h2:op=2
 . subst h2
   go_enter Tryz.func269,Tryz.ntmps269;go_wp2_with fail;go_ret;exact ⟨rfl,rfl⟩
 by_cases h6:op=6
 . subst h6
   go_enter Tryz.func269,Tryz.ntmps269;go_wp2_with fail;go_ret;exact ⟨rfl,rfl⟩
 by_cases h7:7<=op
 . by_cases h15:op<=15
   . have HR:Hid (argsOf op=2):=by show _=_;unfold argsOf;rw [if_neg h2,if_neg h6,if_pos ⟨h7,h15⟩]
     go_enter Tryz.func269,Tryz.ntmps269;go_wp2_with fail;go_ret;exact ⟨ret_int HR.out.symm,rfl⟩
   . have HR:Hid (argsOf op = -1):=by show _=_;unfold argsOf;rw [if_neg h2,if_neg h6,if_neg (by omega)]
     have h15':15<op:=by omega
     clear h15;go_enter Tryz.func269,Tryz.ntmps269;go_wp2_with fail;go_ret;exact ⟨ret_int HR.out.symm,rfl⟩
 . have HR:Hid (argsOf op = -1):=by show _=_;unfold argsOf;rw [if_neg h2,if_neg h6,if_neg (by omega)]
   have h7':op<7:=by omega
   clear h7;go_enter Tryz.func269,Tryz.ntmps269;go_wp2_with fail;go_ret;exact ⟨ret_int HR.out.symm,rfl⟩
theorem localHolds_any (c:Ck) (s:ByteArray) (x1:Option Addr) (y1:Nat) (x2:Option Addr) (y2:Nat) (x3:Option Addr) (n3 y3:Nat) (iv:Value) (m:Int) (w:World) :
 Calls Tryz.prog 209 #[.agg #[.string s,.slice x1 c.uses y1,.int .i64 c.data,.slice x2 c.parts.length y2,.slice x3 n3 y3,iv,.int .i64 c.locals],.int .i64 m] w fun e w'=>e = .returned (.bool (locB c m))/\Below w.heap.size w w':=by
 by_cases ha:0<=m
 . by_cases hb:m<c.locals
   . have HR:Hid (locB c m=true):=decide_eq_true ⟨ha,hb⟩
     go_enter Tryz.func209,Tryz.ntmps209;go_wp2_with fail;go_ret;exact ⟨ret_bool (by first | exact HR.out.symm | (rw [HR.out];first | (simp;omega) | (simp [*];done))),al1 _ _⟩
   . have HR:Hid (locB c m=false):=decide_eq_false (by omega)
     have hb':c.locals<=m:=by omega
     clear hb;go_enter Tryz.func209,Tryz.ntmps209;go_wp2_with fail;go_ret;exact ⟨ret_bool (by first | exact HR.out.symm | (rw [HR.out];first | (simp;omega) | (simp [*];done))),al1 _ _⟩
 . have HR:Hid (locB c m=false):=decide_eq_false (by omega)
   have ha':m<0:=by omega
   clear ha;go_enter Tryz.func209,Tryz.ntmps209;go_wp2_with fail;go_ret;exact ⟨ret_bool (by first | exact HR.out.symm | (rw [HR.out];first | (simp;omega) | (simp [*];done))),al1 _ _⟩
theorem isUse_any (c:Ck) (s:ByteArray) (x1:Option Addr) (y1:Nat) (x2:Option Addr) (y2:Nat) (x3:Option Addr) (n3 y3:Nat) (iv:Value) (m:Int) (w:World) :
 Calls Tryz.prog 268 #[.agg #[.string s,.slice x1 c.uses y1,.int .i64 c.data,.slice x2 c.parts.length y2,.slice x3 n3 y3,iv,.int .i64 c.locals],.int .i64 m] w fun e w'=>e = .returned (.bool (useB c m))/\Below w.heap.size w w':=by
 by_cases ha:1<=m
 . by_cases hb:m<=c.uses
   . have HR:Hid (useB c m=true):=decide_eq_true ⟨ha,hb⟩
     go_enter Tryz.func268,Tryz.ntmps268;go_wp2_with fail;go_ret;exact ⟨ret_bool (by first | exact HR.out.symm | (rw [HR.out];first | (simp;omega) | (simp [*];done))),al1 _ _⟩
   . have HR:Hid (useB c m=false):=decide_eq_false (by omega)
     have hb':(c.uses:Int)<m:=by omega
     clear hb;go_enter Tryz.func268,Tryz.ntmps268;go_wp2_with fail;go_ret;exact ⟨ret_bool (by first | exact HR.out.symm | (rw [HR.out];first | (simp;omega) | (simp [*];done))),al1 _ _⟩
 . have HR:Hid (useB c m=false):=decide_eq_false (by omega)
   have ha':m<1:=by omega
   clear ha;go_enter Tryz.func268,Tryz.ntmps268;go_wp2_with fail;go_ret;exact ⟨ret_bool (by first | exact HR.out.symm | (rw [HR.out];first | (simp;omega) | (simp [*];done))),al1 _ _⟩
structure UsAt (w:World) (c:Ck) (nf pf:FuncId) (v:Value):Prop where
 num:∀ W,Below w.heap.size w W->∀ m at_ n:Int,useB c m=true->(Lit.int .i64 at_).wf=true->1<=n->n<=32->Calls Tryz.prog nf #[v,.int .i64 m,.int .i64 at_,.int .i64 n] W fun e W'=>e = .returned (.bool (c.num m at_ n))/\Below W.heap.size W W'
 prt:∀ W,Below w.heap.size w W->∀ (m at_:Int) (k:Nat),useB c m=true->(Lit.int .i64 at_).wf=true->k<=17592186044416->Calls Tryz.prog pf #[v,.int .i64 m,.int .i64 at_,.int .i64 k] W fun e W'=>e = .returned (.bool (c.prt m at_ k))/\Below W.heap.size W W'
structure CkAt (w:World) (c:Ck) (cv:Value):Prop where
 num:∀ W,Below w.heap.size w W->∀ m at_ n:Int,(Lit.int .i64 m).wf=true->(Lit.int .i64 at_).wf=true->1<=n->n<=32->Calls Tryz.prog 210 #[cv,.int .i64 m,.int .i64 at_,.int .i64 n] W fun e W'=>e = .returned (.bool (numB c m at_ n))/\Below W.heap.size W W'
 prt:∀ W,Below w.heap.size w W->∀ (m at_:Int) (k:Nat),(Lit.int .i64 m).wf=true->(Lit.int .i64 at_).wf=true->k<=17592186044416->Calls Tryz.prog 212 #[cv,.int .i64 m,.int .i64 at_,.int .i64 k] W fun e W'=>e = .returned (.bool (prtB c m at_ k))/\Below W.heap.size W W'
theorem CkAt.later {w w':World} {c:Ck} {cv:Value} (h:CkAt w c cv) (hb:Below w.heap.size w w'):CkAt w' c cv:=⟨fun W hW=>h.num W (thenB hb hW),fun W hW=>h.prt W (thenB hb hW)⟩
theorem UsAt.later {w w':World} {c:Ck} {nf pf:FuncId} {v:Value} (h:UsAt w c nf pf v) (hb:Below w.heap.size w w'):UsAt w' c nf pf v:=⟨fun W hW=>h.num W (thenB hb hW),fun W hW=>h.prt W (thenB hb hW)⟩
end Go.Proofs.YtndkhgakfodldaaGreatDoor

namespace Go.Proofs.YtndkhgakfodldaaGreatDoor
set_option maxRecDepth 100000
set_option maxHeartbeats 1600000
open Go.RowKit Go.Maps Go.WideMaps
set_option linter.unusedSimpArgs false
set_option linter.unusedVariables false
theorem cells7 {w:World} {b:Nat} {x0 x1 x2 x3 x4 x5 x6:Value} {t:TypeId} (h:w.heap[b]? = some (.cells #[x0,x1,x2,x3,x4,x5,x6] t (0,0))) :
 w.cell? ⟨b,0,none⟩=some x0/\w.cell? ⟨b,1,none⟩=some x1/\w.cell? ⟨b,2,none⟩=some x2/\w.cell? ⟨b,3,none⟩=some x3/\w.cell? ⟨b,4,none⟩=some x4/\w.cell? ⟨b,5,none⟩=some x5/\w.cell? ⟨b,6,none⟩=some x6/\b<w.heap.size:=by
 refine ⟨?_,?_,?_,?_,?_,?_,?_,lt_of_heap h⟩<;>(rw [Lib.cell_of_heap h];rfl)
theorem newP1 (w:World) (o p:Obj):((w.alloc o).alloc p).heap[w.heap.size+1]? = some p:=by simpa using heap_newP (w.alloc o) p
theorem nilPK (av:Option Addr) (nv cv:Nat) (w:World):(nilAhead 337 199 (.slice av nv cv) "HasPart").run Tryz.prog w = .ok (some false) w:=by kernel_rfl
theorem metPK (av:Option Addr) (nv cv:Nat) (w:World):(method 337 199 (.slice av nv cv) "HasPart").run Tryz.prog w = .ok (330,.slice av nv cv) w:=by kernel_rfl
theorem partK (c:Ck) (s:ByteArray) (x1:Option Addr) (y1:Nat) (x2:Option Addr) (y2:Nat) (x3:Option Addr) (n3 y3:Nat) (av:Option Addr) (nv cv:Nat) (m at_:Int) (k:Nat) (w:World) (hP:DAt w Tt x2 c.parts.length (ptsD c.parts)) (hu:c.uses<=17592186044416) (hU:UsAt w c 329 330 (.slice av nv cv)) (hm:(Lit.int .i64 m).wf=true) (ha:(Lit.int .i64 at_).wf=true) (hk:k<=17592186044416) :
 Calls Tryz.prog 212 #[.agg #[.string s,.slice x1 c.uses y1,.int .i64 c.data,.slice x2 c.parts.length y2,.slice x3 n3 y3,.iface 199 (.slice av nv cv),.int .i64 c.locals],.int .i64 m,.int .i64 at_,.int .i64 k] w fun e w'=>e = .returned (.bool (prtB c m at_ k))/\Below w.heap.size w w':=by
 have HU:=hid hU;have HA:=hid ha;have HP:=hid hP;have hpb:=hP.bound;clear hU ha hm hP;have n1:=nilPK av nv cv;have n2:=metPK av nv cv
 by_cases h0:m=0
 . subst h0
   have HR:Hid (prtB c 0 at_ k=hasP c.parts at_ k):=if_pos rfl
   by_cases t1:0<=at_
   . obtain ⟨i,rfl⟩:∃ i:Nat,at_=i:=⟨at_.toNat,by omega⟩
     by_cases t2:i<c.parts.length
     . obtain ⟨b,off,ab,cb,rfl,hx⟩:=(HP.out.later (al1 w (.cells #[.string s,.slice x1 c.uses y1,.int .i64 c.data,.slice x2 c.parts.length y2,.slice x3 n3 y3,.iface 199 (.slice av nv cv),.int .i64 c.locals] 206))).pt i t2
       have HQ:Hid (hasP c.parts i k=decide (c.parts[i].params=k)):=by show _=_;unfold hasP;rw [decide_eq_true t1,Int.toNat_natCast,List.getElem?_eq_getElem t2];rfl
       obtain ⟨hbl,p0,_,_,_,_,_⟩:=hx
       have t2':(i:Int)<c.parts.length:=by omega
       have pz:b<w.heap.size+1:=by simpa using hbl
       generalize c.parts[i].params=pp at *
       by_cases t3:pp=k
       . have HR':Hid (prtB c 0 i k=true):=by show _=_;rw [HR.out,HQ.out,decide_eq_true t3]
         subst t3;go_enter Tryz.func212,Tryz.ntmps212;go_wp2_with fail;go_ret;exact ⟨ret_bool (by first | exact HR'.out.symm | (rw [HR'.out];first | (simp;omega) | (simp [*];done))),al1 _ _⟩
       . have HR':Hid (prtB c 0 i k=false):=by show _=_;rw [HR.out,HQ.out,decide_eq_false t3]
         go_enter Tryz.func212,Tryz.ntmps212;go_wp2_with fail;go_ret;exact ⟨ret_bool (by first | exact HR'.out.symm | (rw [HR'.out];first | (simp;omega) | (simp [*];done))),al1 _ _⟩
     . have HR':Hid (prtB c 0 i k=false):=by show _=_;rw [HR.out];unfold hasP;rw [Int.toNat_natCast,List.getElem?_eq_none (by omega)];simp
       have t2':c.parts.length<=i:=by omega
       clear t2;go_enter Tryz.func212,Tryz.ntmps212;go_wp2_with fail;go_ret;exact ⟨ret_bool (by first | exact HR'.out.symm | (rw [HR'.out];first | (simp;omega) | (simp [*];done))),al1 _ _⟩
   . have HR':Hid (prtB c 0 at_ k=false):=by show _=_;rw [HR.out];unfold hasP;rw [decide_eq_false t1];rfl
     have t1':at_<0:=by omega
     clear t1;go_enter Tryz.func212,Tryz.ntmps212;go_wp2_with fail;go_ret;exact ⟨ret_bool (by first | exact HR'.out.symm | (rw [HR'.out];first | (simp;omega) | (simp [*];done))),al1 _ _⟩
 . have HR:Hid (prtB c m at_ k=(useB c m&&c.prt m at_ k)):=if_neg h0
   have HI:=hid (isUse_any c s x1 y1 x2 y2 x3 n3 y3 (.iface 199 (.slice av nv cv)) m (w.alloc (.cells #[.string s,.slice x1 c.uses y1,.int .i64 c.data,.slice x2 c.parts.length y2,.slice x3 n3 y3,.iface 199 (.slice av nv cv),.int .i64 c.locals] 206)))
   cases hb:useB c m with
   | false=>
     rw [hb] at HI HR;go_enter Tryz.func212,Tryz.ntmps212;go_wp2_with fail;refine HI.out.mono ?_;rintro e w1 ⟨rfl,hb1⟩;have HB1:=hid (thenB (al1 w _) hb1);clear hb1;go_wp2_with fail;go_ret;exact ⟨ret_bool (by first | exact HR.out.symm | (rw [HR.out];first | (simp;omega) | (simp [*];done))),HB1.out⟩
   | true=>
     rw [hb] at HI HR;have HUb:=hid hb;clear hb;go_enter Tryz.func212,Tryz.ntmps212;go_wp2_with fail;refine HI.out.mono ?_;rintro e w1 ⟨rfl,hb1⟩;have HB1:=hid (thenB (al1 w _) hb1);have q1:=(hb1.block _ (by simp)).trans (heap_newP w (.cells #[.string s,.slice x1 c.uses y1,.int .i64 c.data,.slice x2 c.parts.length y2,.slice x3 n3 y3,.iface 199 (.slice av nv cv),.int .i64 c.locals] 206));obtain ⟨c0,c1,c2,c3,c4,c5,c6,cz⟩:=cells7 q1;clear hb1 q1 c0 c1 c2 c3 c4 c6 HI
     go_wp2_with (go_at_call 330;refine (HU.out.prt _ HB1.out m at_ k HUb.out HA.out hk).mono ?_;rintro e w2 ⟨rfl,hb2⟩;have HB2:=hid (thenB HB1.out hb2);clear hb2)
     go_ret;exact ⟨ret_bool (by rw [HR.out];rfl),HB2.out⟩
theorem nilNS (w:World):(nilAhead 337 133 (.agg #[]) "HasNumbers").run Tryz.prog w = .ok (some false) w:=by kernel_rfl
theorem nilPS (w:World):(nilAhead 337 133 (.agg #[]) "HasPart").run Tryz.prog w = .ok (some false) w:=by kernel_rfl
theorem metNS (w:World):(method 337 133 (.agg #[]) "HasNumbers").run Tryz.prog w = .ok (327,.agg #[]) w:=by kernel_rfl
theorem metPS (w:World):(method 337 133 (.agg #[]) "HasPart").run Tryz.prog w = .ok (328,.agg #[]) w:=by kernel_rfl
theorem numbersS (c:Ck) (s:ByteArray) (x1:Option Addr) (y1:Nat) (x2:Option Addr) (y2:Nat) (x3:Option Addr) (n3 y3:Nat) (m at_ n:Int) (w:World) (hd0:0<=c.data) (hd1:c.data<=512) (hu:c.uses<=17592186044416) (hU:UsAt w c 327 328 (.agg #[])) (hm:(Lit.int .i64 m).wf=true) (ha:(Lit.int .i64 at_).wf=true) (h1:1<=n) (h2:n<=32) :
 Calls Tryz.prog 210 #[.agg #[.string s,.slice x1 c.uses y1,.int .i64 c.data,.slice x2 c.parts.length y2,.slice x3 n3 y3,.iface 133 (.agg #[]),.int .i64 c.locals],.int .i64 m,.int .i64 at_,.int .i64 n] w fun e w'=>e = .returned (.bool (numB c m at_ n))/\Below w.heap.size w w':=by
 have HU:=hid hU;have HA:=hid ha;clear hU ha hm;have n1:=nilNS;have n2:=metNS
 by_cases h0:m=0
 . subst h0
   have HR:Hid (numB c 0 at_ n=lieB c.data at_ n):=if_pos rfl;go_enter Tryz.func210,Tryz.ntmps210;go_wp2_with fail;refine (lieIn_any c.data at_ n _ hd0 hd1 h1 h2 HA.out).mono ?_;rintro e w1 ⟨rfl,rfl⟩;go_wp2_with fail;go_ret;exact ⟨ret_bool (by first | exact HR.out.symm | (rw [HR.out];first | (simp;omega) | (simp [*];done))),al1 _ _⟩
 . have HR:Hid (numB c m at_ n=(useB c m&&c.num m at_ n)):=if_neg h0
   have HI:=hid (isUse_any c s x1 y1 x2 y2 x3 n3 y3 (.iface 133 (.agg #[])) m (w.alloc (.cells #[.string s,.slice x1 c.uses y1,.int .i64 c.data,.slice x2 c.parts.length y2,.slice x3 n3 y3,.iface 133 (.agg #[]),.int .i64 c.locals] 206)))
   cases hb:useB c m with
   | false=>
     rw [hb] at HI HR;go_enter Tryz.func210,Tryz.ntmps210;go_wp2_with fail;refine HI.out.mono ?_;rintro e w1 ⟨rfl,hb1⟩;have HB1:=hid (thenB (al1 w _) hb1);clear hb1;go_wp2_with fail;go_ret;exact ⟨ret_bool (by first | exact HR.out.symm | (rw [HR.out];first | (simp;omega) | (simp [*];done))),HB1.out⟩
   | true=>
     rw [hb] at HI HR;have HUb:=hid hb;clear hb;go_enter Tryz.func210,Tryz.ntmps210;go_wp2_with fail;refine HI.out.mono ?_;rintro e w1 ⟨rfl,hb1⟩;have HB1:=hid (thenB (al1 w _) hb1);have q1:=(hb1.block _ (by simp)).trans (heap_newP w (.cells #[.string s,.slice x1 c.uses y1,.int .i64 c.data,.slice x2 c.parts.length y2,.slice x3 n3 y3,.iface 133 (.agg #[]),.int .i64 c.locals] 206));obtain ⟨c0,c1,c2,c3,c4,c5,c6,cz⟩:=cells7 q1;clear hb1 q1 c0 c1 c2 c3 c4 c6 HI
     go_wp2_with (go_at_call 327;refine (HU.out.num _ HB1.out m at_ n HUb.out HA.out h1 h2).mono ?_;rintro e w2 ⟨rfl,hb2⟩;have HB2:=hid (thenB HB1.out hb2);clear hb2)
     go_ret;exact ⟨ret_bool (by rw [HR.out];rfl),HB2.out⟩
theorem partS (c:Ck) (s:ByteArray) (x1:Option Addr) (y1:Nat) (x2:Option Addr) (y2:Nat) (x3:Option Addr) (n3 y3:Nat) (m at_:Int) (k:Nat) (w:World) (hP:DAt w Tt x2 c.parts.length (ptsD c.parts)) (hu:c.uses<=17592186044416) (hU:UsAt w c 327 328 (.agg #[])) (hm:(Lit.int .i64 m).wf=true) (ha:(Lit.int .i64 at_).wf=true) (hk:k<=17592186044416) :
 Calls Tryz.prog 212 #[.agg #[.string s,.slice x1 c.uses y1,.int .i64 c.data,.slice x2 c.parts.length y2,.slice x3 n3 y3,.iface 133 (.agg #[]),.int .i64 c.locals],.int .i64 m,.int .i64 at_,.int .i64 k] w fun e w'=>e = .returned (.bool (prtB c m at_ k))/\Below w.heap.size w w':=by
 have HU:=hid hU;have HA:=hid ha;have HP:=hid hP;have hpb:=hP.bound;clear hU ha hm hP;have n1:=nilPS;have n2:=metPS
 by_cases h0:m=0
 . subst h0
   have HR:Hid (prtB c 0 at_ k=hasP c.parts at_ k):=if_pos rfl
   by_cases t1:0<=at_
   . obtain ⟨i,rfl⟩:∃ i:Nat,at_=i:=⟨at_.toNat,by omega⟩
     by_cases t2:i<c.parts.length
     . obtain ⟨b,off,ab,cb,rfl,hx⟩:=(HP.out.later (al1 w (.cells #[.string s,.slice x1 c.uses y1,.int .i64 c.data,.slice x2 c.parts.length y2,.slice x3 n3 y3,.iface 133 (.agg #[]),.int .i64 c.locals] 206))).pt i t2
       have HQ:Hid (hasP c.parts i k=decide (c.parts[i].params=k)):=by show _=_;unfold hasP;rw [decide_eq_true t1,Int.toNat_natCast,List.getElem?_eq_getElem t2];rfl
       obtain ⟨hbl,p0,_,_,_,_,_⟩:=hx
       have t2':(i:Int)<c.parts.length:=by omega
       have pz:b<w.heap.size+1:=by simpa using hbl
       generalize c.parts[i].params=pp at *
       by_cases t3:pp=k
       . have HR':Hid (prtB c 0 i k=true):=by show _=_;rw [HR.out,HQ.out,decide_eq_true t3]
         subst t3;go_enter Tryz.func212,Tryz.ntmps212;go_wp2_with fail;go_ret;exact ⟨ret_bool (by first | exact HR'.out.symm | (rw [HR'.out];first | (simp;omega) | (simp [*];done))),al1 _ _⟩
       . have HR':Hid (prtB c 0 i k=false):=by show _=_;rw [HR.out,HQ.out,decide_eq_false t3]
         go_enter Tryz.func212,Tryz.ntmps212;go_wp2_with fail;go_ret;exact ⟨ret_bool (by first | exact HR'.out.symm | (rw [HR'.out];first | (simp;omega) | (simp [*];done))),al1 _ _⟩
     . have HR':Hid (prtB c 0 i k=false):=by show _=_;rw [HR.out];unfold hasP;rw [Int.toNat_natCast,List.getElem?_eq_none (by omega)];simp
       have t2':c.parts.length<=i:=by omega
       clear t2;go_enter Tryz.func212,Tryz.ntmps212;go_wp2_with fail;go_ret;exact ⟨ret_bool (by first | exact HR'.out.symm | (rw [HR'.out];first | (simp;omega) | (simp [*];done))),al1 _ _⟩
   . have HR':Hid (prtB c 0 at_ k=false):=by show _=_;rw [HR.out];unfold hasP;rw [decide_eq_false t1];rfl
     have t1':at_<0:=by omega
     clear t1;go_enter Tryz.func212,Tryz.ntmps212;go_wp2_with fail;go_ret;exact ⟨ret_bool (by first | exact HR'.out.symm | (rw [HR'.out];first | (simp;omega) | (simp [*];done))),al1 _ _⟩
 . have HR:Hid (prtB c m at_ k=(useB c m&&c.prt m at_ k)):=if_neg h0
   have HI:=hid (isUse_any c s x1 y1 x2 y2 x3 n3 y3 (.iface 133 (.agg #[])) m (w.alloc (.cells #[.string s,.slice x1 c.uses y1,.int .i64 c.data,.slice x2 c.parts.length y2,.slice x3 n3 y3,.iface 133 (.agg #[]),.int .i64 c.locals] 206)))
   cases hb:useB c m with
   | false=>
     rw [hb] at HI HR;go_enter Tryz.func212,Tryz.ntmps212;go_wp2_with fail;refine HI.out.mono ?_;rintro e w1 ⟨rfl,hb1⟩;have HB1:=hid (thenB (al1 w _) hb1);clear hb1;go_wp2_with fail;go_ret;exact ⟨ret_bool (by first | exact HR.out.symm | (rw [HR.out];first | (simp;omega) | (simp [*];done))),HB1.out⟩
   | true=>
     rw [hb] at HI HR;have HUb:=hid hb;clear hb;go_enter Tryz.func212,Tryz.ntmps212;go_wp2_with fail;refine HI.out.mono ?_;rintro e w1 ⟨rfl,hb1⟩;have HB1:=hid (thenB (al1 w _) hb1);have q1:=(hb1.block _ (by simp)).trans (heap_newP w (.cells #[.string s,.slice x1 c.uses y1,.int .i64 c.data,.slice x2 c.parts.length y2,.slice x3 n3 y3,.iface 133 (.agg #[]),.int .i64 c.locals] 206));obtain ⟨c0,c1,c2,c3,c4,c5,c6,cz⟩:=cells7 q1;clear hb1 q1 c0 c1 c2 c3 c4 c6 HI
     go_wp2_with (go_at_call 328;refine (HU.out.prt _ HB1.out m at_ k HUb.out HA.out hk).mono ?_;rintro e w2 ⟨rfl,hb2⟩;have HB2:=hid (thenB HB1.out hb2);clear hb2)
     go_ret;exact ⟨ret_bool (by rw [HR.out];rfl),HB2.out⟩
theorem ckS (c:Ck) (s:ByteArray) (x1:Option Addr) (y1:Nat) (x2:Option Addr) (y2:Nat) (x3:Option Addr) (n3 y3:Nat) (w:World) (hd0:0<=c.data) (hd1:c.data<=512) (hu:c.uses<=17592186044416) (hP:DAt w Tt x2 c.parts.length (ptsD c.parts)) (hU:UsAt w c 327 328 (.agg #[])):CkAt w c (.agg #[.string s,.slice x1 c.uses y1,.int .i64 c.data,.slice x2 c.parts.length y2,.slice x3 n3 y3,.iface 133 (.agg #[]),.int .i64 c.locals]):=
 ⟨fun W hW m at_ n h1 h2 h3 h4=>numbersS c s x1 y1 x2 y2 x3 n3 y3 m at_ n W hd0 hd1 hu (hU.later hW) h1 h2 h3 h4,fun W hW m at_ k h1 h2 h3=>partS c s x1 y1 x2 y2 x3 n3 y3 m at_ k W (hP.later hW) hu (hU.later hW) h1 h2 h3⟩
end Go.Proofs.YtndkhgakfodldaaGreatDoor

namespace Go.Proofs.YtndkhgakfodldaaGreatDoor
set_option maxRecDepth 100000
set_option maxHeartbeats 3200000
open Go.RowKit Go.Maps Go.WideMaps
set_option linter.unusedSimpArgs false
set_option linter.unusedVariables false
theorem arrayHolds_any (c:Ck) (s:ByteArray) (x1:Option Addr) (y1:Nat) (x2:Option Addr) (y2:Nat) (x3:Option Addr) (n3 y3:Nat) (iv:Value) (n m at_:Int) (w:World) (hC:CkAt w c (.agg #[.string s,.slice x1 c.uses y1,.int .i64 c.data,.slice x2 c.parts.length y2,.slice x3 n3 y3,iv,.int .i64 c.locals])) (hm:(Lit.int .i64 m).wf=true) (ha:(Lit.int .i64 at_).wf=true) :
 Calls Tryz.prog 211 #[.agg #[.string s,.slice x1 c.uses y1,.int .i64 c.data,.slice x2 c.parts.length y2,.slice x3 n3 y3,iv,.int .i64 c.locals],.int .i64 n,.int .i64 m,.int .i64 at_] w fun e w'=>e = .returned (.bool (arrB c n m at_))/\Below w.heap.size w w':=by
 have HN:=hid (fun h1 h2=>hC.num (w.alloc (.cells #[.string s,.slice x1 c.uses y1,.int .i64 c.data,.slice x2 c.parts.length y2,.slice x3 n3 y3,iv,.int .i64 c.locals] 206)) (al1 _ _) m at_ n hm ha h1 h2);clear hC hm ha
 by_cases h1:1<=n
 . by_cases h2:n<=32
   . have HR:Hid (arrB c n m at_=numB c m at_ n):=by show _=_;unfold arrB;rw [decide_eq_true ⟨h1,h2⟩];rfl
     go_enter Tryz.func211,Tryz.ntmps211;go_wp2_with fail;refine (HN.out h1 h2).mono ?_;rintro e w1 ⟨rfl,hb1⟩;have HB1:=hid (thenB (al1 w _) hb1);clear hb1;go_wp2_with fail;go_ret;exact ⟨ret_bool (by first | exact HR.out.symm | (rw [HR.out];first | (simp;omega) | (simp [*];done))),HB1.out⟩
   . have HR:Hid (arrB c n m at_=false):=by show _=_;unfold arrB;rw [decide_eq_false (by omega)];rfl
     have h2':32<n:=by omega
     clear h2 HN;go_enter Tryz.func211,Tryz.ntmps211;go_wp2_with fail;go_ret;exact ⟨ret_bool (by first | exact HR.out.symm | (rw [HR.out];first | (simp;omega) | (simp [*];done))),al1 _ _⟩
 . have HR:Hid (arrB c n m at_=false):=by show _=_;unfold arrB;rw [decide_eq_false (by omega)];rfl
   have h1':n<1:=by omega
   clear h1 HN;go_enter Tryz.func211,Tryz.ntmps211;go_wp2_with fail;go_ret;exact ⟨ret_bool (by first | exact HR.out.symm | (rw [HR.out];first | (simp;omega) | (simp [*];done))),al1 _ _⟩
theorem nodeHolds_any (c:Ck) (s:ByteArray) (x1:Option Addr) (y1:Nat) (x2:Option Addr) (y2:Nat) (x3:Option Addr) (n3 y3:Nat) (iv:Value) (x:Nd) (aa:Option Addr) (cp:Nat) (w:World) (hC:CkAt w c (.agg #[.string s,.slice x1 c.uses y1,.int .i64 c.data,.slice x2 c.parts.length y2,.slice x3 n3 y3,iv,.int .i64 c.locals])) (hm:(Lit.int .i64 x.m).wf=true) (ha:(Lit.int .i64 x.at_).wf=true) (hl:x.args.length<=17592186044416) :
 Calls Tryz.prog 213 #[.agg #[.string s,.slice x1 c.uses y1,.int .i64 c.data,.slice x2 c.parts.length y2,.slice x3 n3 y3,iv,.int .i64 c.locals],.agg #[.int .i64 x.op,.int .i64 x.n,.int .i64 x.m,.int .i64 x.at_,.slice aa x.args.length cp]] w fun e w'=>e = .returned (.bool (nodeA c x))/\Below w.heap.size w w':=by
 obtain ⟨op,n,m,at_,args⟩:=x;simp only [Nd.op,Nd.n,Nd.m,Nd.at_,Nd.args] at *;have HC:=hid hC;have HM:=hid hm;have HA:=hid ha;clear hC hm ha
 by_cases o3:op=3
 . subst o3
   by_cases t2:args.length=0
   . by_cases t1:n=0
     . have HR:Hid (nodeA c (.mk 3 n m at_ args)=numB c m at_ 1):=by show _=_;unfold nodeA;simp only [Nd.op,Nd.n,Nd.m,Nd.at_,Nd.args];simp [*]
       go_enter Tryz.func213,Tryz.ntmps213;go_wp2_with fail;refine (HC.out.num _ (al2 _ _ _) m at_ 1 HM.out HA.out (by decide) (by decide)).mono ?_;rintro e w1 ⟨rfl,hb1⟩;have HB1:=hid (thenB (al2 w _ _) hb1);clear hb1;go_wp2_with fail;go_ret;exact ⟨ret_bool (by first | exact HR.out.symm | (rw [HR.out];first | (simp;omega) | (simp [*];done))),HB1.out⟩
     . have HR:Hid (nodeA c (.mk 3 n m at_ args)=false):=by show _=_;unfold nodeA;simp only [Nd.op,Nd.n,Nd.m,Nd.at_,Nd.args];simp [*]
       have t':n≠0:=by omega
       clear t1;go_enter Tryz.func213,Tryz.ntmps213;go_wp2_with fail;go_ret;exact ⟨ret_bool (by first | exact HR.out.symm | (rw [HR.out];first | (simp;omega) | (simp [*];done))),al2 _ _ _⟩
   . have HR:Hid (nodeA c (.mk 3 n m at_ args)=false):=by show _=_;unfold nodeA;simp only [Nd.op,Nd.n,Nd.m,Nd.at_,Nd.args];simp [*]
     have t':args.length≠0:=by omega
     clear t2;go_enter Tryz.func213,Tryz.ntmps213;go_wp2_with fail;go_ret;exact ⟨ret_bool (by first | exact HR.out.symm | (rw [HR.out];first | (simp;omega) | (simp [*];done))),al2 _ _ _⟩
 by_cases o4:op=4
 . subst o4
   by_cases t1:args.length=1
   . have HR:Hid (nodeA c (.mk 4 n m at_ args)=arrB c n m at_):=by show _=_;unfold nodeA;simp only [Nd.op,Nd.n,Nd.m,Nd.at_,Nd.args];simp [*]
     go_enter Tryz.func213,Tryz.ntmps213;go_wp2_with fail;refine (arrayHolds_any c s x1 y1 x2 y2 x3 n3 y3 iv n m at_ _ (HC.out.later (al2 _ _ _)) HM.out HA.out).mono ?_;rintro e w1 ⟨rfl,hb1⟩;have HB1:=hid (thenB (al2 w _ _) hb1);clear hb1;go_wp2_with fail;go_ret;exact ⟨ret_bool (by first | exact HR.out.symm | (rw [HR.out];first | (simp;omega) | (simp [*];done))),HB1.out⟩
   . have HR:Hid (nodeA c (.mk 4 n m at_ args)=false):=by show _=_;unfold nodeA;simp only [Nd.op,Nd.n,Nd.m,Nd.at_,Nd.args];simp [*]
     have t':args.length≠1:=by omega
     clear t1;go_enter Tryz.func213,Tryz.ntmps213;go_wp2_with fail;go_ret;exact ⟨ret_bool (by first | exact HR.out.symm | (rw [HR.out];first | (simp;omega) | (simp [*];done))),al2 _ _ _⟩
 by_cases o5:op=5
 . subst o5
   by_cases t1:n=0
   . have HR:Hid (nodeA c (.mk 5 n m at_ args)=prtB c m at_ args.length):=by show _=_;unfold nodeA;simp only [Nd.op,Nd.n,Nd.m,Nd.at_,Nd.args];simp [*]
     go_enter Tryz.func213,Tryz.ntmps213;go_wp2_with fail;refine (HC.out.prt _ (al2 _ _ _) m at_ args.length HM.out HA.out hl).mono ?_;rintro e w1 ⟨rfl,hb1⟩;have HB1:=hid (thenB (al2 w _ _) hb1);clear hb1;go_wp2_with fail;go_ret;exact ⟨ret_bool (by first | exact HR.out.symm | (rw [HR.out];first | (simp;omega) | (simp [*];done))),HB1.out⟩
   . have HR:Hid (nodeA c (.mk 5 n m at_ args)=false):=by show _=_;unfold nodeA;simp only [Nd.op,Nd.n,Nd.m,Nd.at_,Nd.args];simp [*]
     have t':n≠0:=by omega
     clear t1;go_enter Tryz.func213,Tryz.ntmps213;go_wp2_with fail;go_ret;exact ⟨ret_bool (by first | exact HR.out.symm | (rw [HR.out];first | (simp;omega) | (simp [*];done))),al2 _ _ _⟩
 by_cases o16:op=16
 . subst o16
   by_cases t3:args.length=0
   . by_cases t2:n=0
     . by_cases t1:m=0
       . have HR:Hid (nodeA c (.mk 16 n m at_ args)=locB c at_):=by show _=_;unfold nodeA;simp only [Nd.op,Nd.n,Nd.m,Nd.at_,Nd.args];simp [*]
         go_enter Tryz.func213,Tryz.ntmps213;go_wp2_with fail;refine (localHolds_any c s x1 y1 x2 y2 x3 n3 y3 iv at_ _).mono ?_;rintro e w1 ⟨rfl,hb1⟩;have HB1:=hid (thenB (al2 w _ _) hb1);clear hb1;go_wp2_with fail;go_ret;exact ⟨ret_bool (by first | exact HR.out.symm | (rw [HR.out];first | (simp;omega) | (simp [*];done))),HB1.out⟩
       . have HR:Hid (nodeA c (.mk 16 n m at_ args)=false):=by show _=_;unfold nodeA;simp only [Nd.op,Nd.n,Nd.m,Nd.at_,Nd.args];simp [*]
         have t':m≠0:=by omega
         clear t1;go_enter Tryz.func213,Tryz.ntmps213;go_wp2_with fail;go_ret;exact ⟨ret_bool (by first | exact HR.out.symm | (rw [HR.out];first | (simp;omega) | (simp [*];done))),al2 _ _ _⟩
     . have HR:Hid (nodeA c (.mk 16 n m at_ args)=false):=by show _=_;unfold nodeA;simp only [Nd.op,Nd.n,Nd.m,Nd.at_,Nd.args];simp [*]
       have t':n≠0:=by omega
       clear t2;go_enter Tryz.func213,Tryz.ntmps213;go_wp2_with fail;go_ret;exact ⟨ret_bool (by first | exact HR.out.symm | (rw [HR.out];first | (simp;omega) | (simp [*];done))),al2 _ _ _⟩
   . have HR:Hid (nodeA c (.mk 16 n m at_ args)=false):=by show _=_;unfold nodeA;simp only [Nd.op,Nd.n,Nd.m,Nd.at_,Nd.args];simp [*]
     have t':args.length≠0:=by omega
     clear t3;go_enter Tryz.func213,Tryz.ntmps213;go_wp2_with fail;go_ret;exact ⟨ret_bool (by first | exact HR.out.symm | (rw [HR.out];first | (simp;omega) | (simp [*];done))),al2 _ _ _⟩
 by_cases o1:op=1
 . subst o1
   by_cases t5:args.length=0
   . by_cases t4:0<=n
     . by_cases t3:n<=1099511627775
       . by_cases t2:m=0
         . by_cases t1:at_=0
           . have HR:Hid (nodeA c (.mk 1 n m at_ args)=true):=by show _=_;unfold nodeA;simp only [Nd.op,Nd.n,Nd.m,Nd.at_,Nd.args];simp [*]
             go_enter Tryz.func213,Tryz.ntmps213;go_wp2_with fail;go_ret;exact ⟨ret_bool (by first | exact HR.out.symm | (rw [HR.out];first | (simp;omega) | (simp [*];done))),al2 _ _ _⟩
           . have HR:Hid (nodeA c (.mk 1 n m at_ args)=false):=by show _=_;unfold nodeA;simp only [Nd.op,Nd.n,Nd.m,Nd.at_,Nd.args];simp [*]
             have t':at_≠0:=by omega
             clear t1;go_enter Tryz.func213,Tryz.ntmps213;go_wp2_with fail;go_ret;exact ⟨ret_bool (by first | exact HR.out.symm | (rw [HR.out];first | (simp;omega) | (simp [*];done))),al2 _ _ _⟩
         . have HR:Hid (nodeA c (.mk 1 n m at_ args)=false):=by show _=_;unfold nodeA;simp only [Nd.op,Nd.n,Nd.m,Nd.at_,Nd.args];simp [*]
           have t':m≠0:=by omega
           clear t2;go_enter Tryz.func213,Tryz.ntmps213;go_wp2_with fail;go_ret;exact ⟨ret_bool (by first | exact HR.out.symm | (rw [HR.out];first | (simp;omega) | (simp [*];done))),al2 _ _ _⟩
       . have HR:Hid (nodeA c (.mk 1 n m at_ args)=false):=by show _=_;unfold nodeA;simp only [Nd.op,Nd.n,Nd.m,Nd.at_,Nd.args];simp [*]
         have t':1099511627775<n:=by omega
         clear t3;go_enter Tryz.func213,Tryz.ntmps213;go_wp2_with fail;go_ret;exact ⟨ret_bool (by first | exact HR.out.symm | (rw [HR.out];first | (simp;omega) | (simp [*];done))),al2 _ _ _⟩
     . have HR:Hid (nodeA c (.mk 1 n m at_ args)=false):=by show _=_;unfold nodeA;simp only [Nd.op,Nd.n,Nd.m,Nd.at_,Nd.args];simp [*]
       have t':n<0:=by omega
       clear t4;go_enter Tryz.func213,Tryz.ntmps213;go_wp2_with fail;go_ret;exact ⟨ret_bool (by first | exact HR.out.symm | (rw [HR.out];first | (simp;omega) | (simp [*];done))),al2 _ _ _⟩
   . have HR:Hid (nodeA c (.mk 1 n m at_ args)=false):=by show _=_;unfold nodeA;simp only [Nd.op,Nd.n,Nd.m,Nd.at_,Nd.args];simp [*]
     have t':args.length≠0:=by omega
     clear t5;go_enter Tryz.func213,Tryz.ntmps213;go_wp2_with fail;go_ret;exact ⟨ret_bool (by first | exact HR.out.symm | (rw [HR.out];first | (simp;omega) | (simp [*];done))),al2 _ _ _⟩
 have HQ:Hid (nodeA c (.mk op n m at_ args)=(decide ((args.length:Int)=argsOf op)&&(decide (n=0)&&(decide (m=0)&&decide (at_=0))))):=by
  show _=_;unfold nodeA;exact (if_neg o3).trans ((if_neg o4).trans ((if_neg o5).trans ((if_neg o16).trans (if_neg o1))))
 have HG:=hid (argsOf_any op);generalize argsOf op=g at *
 by_cases t4:(args.length:Int)=g
 . by_cases t3:n=0
   . by_cases t2:m=0
     . by_cases t1:at_=0
       . have HR:Hid (nodeA c (.mk op n m at_ args)=true):=by show _=_;rw [HQ.out];simp [*]
         go_enter Tryz.func213,Tryz.ntmps213;go_wp2_with fail;refine (HG.out _).mono ?_;rintro e w1 ⟨rfl,rfl⟩;go_wp2_with fail;go_ret;exact ⟨ret_bool (by first | exact HR.out.symm | (rw [HR.out];first | (simp;omega) | (simp [*];done))),al2 _ _ _⟩
       . have HR:Hid (nodeA c (.mk op n m at_ args)=false):=by show _=_;rw [HQ.out];simp [*]
         have t':at_≠0:=by omega
         clear t1;go_enter Tryz.func213,Tryz.ntmps213;go_wp2_with fail;refine (HG.out _).mono ?_;rintro e w1 ⟨rfl,rfl⟩;go_wp2_with fail;go_ret;exact ⟨ret_bool (by first | exact HR.out.symm | (rw [HR.out];first | (simp;omega) | (simp [*];done))),al2 _ _ _⟩
     . have HR:Hid (nodeA c (.mk op n m at_ args)=false):=by show _=_;rw [HQ.out];simp [*]
       have t':m≠0:=by omega
       clear t2;go_enter Tryz.func213,Tryz.ntmps213;go_wp2_with fail;refine (HG.out _).mono ?_;rintro e w1 ⟨rfl,rfl⟩;go_wp2_with fail;go_ret;exact ⟨ret_bool (by first | exact HR.out.symm | (rw [HR.out];first | (simp;omega) | (simp [*];done))),al2 _ _ _⟩
   . have HR:Hid (nodeA c (.mk op n m at_ args)=false):=by show _=_;rw [HQ.out];simp [*]
     have t':n≠0:=by omega
     clear t3;go_enter Tryz.func213,Tryz.ntmps213;go_wp2_with fail;refine (HG.out _).mono ?_;rintro e w1 ⟨rfl,rfl⟩;go_wp2_with fail;go_ret;exact ⟨ret_bool (by first | exact HR.out.symm | (rw [HR.out];first | (simp;omega) | (simp [*];done))),al2 _ _ _⟩
 . have HR:Hid (nodeA c (.mk op n m at_ args)=false):=by show _=_;rw [HQ.out];simp [*]
   have t':(args.length:Int)≠g:=by omega
   clear t4;go_enter Tryz.func213,Tryz.ntmps213;go_wp2_with fail;refine (HG.out _).mono ?_;rintro e w1 ⟨rfl,rfl⟩;go_wp2_with fail;go_ret;exact ⟨ret_bool (by first | exact HR.out.symm | (rw [HR.out];first | (simp;omega) | (simp [*];done))),al2 _ _ _⟩
end Go.Proofs.YtndkhgakfodldaaGreatDoor

namespace Go.Proofs.YtndkhgakfodldaaGreatDoor
set_option maxRecDepth 100000
set_option maxHeartbeats 3200000
open Go.RowKit Go.Maps Go.WideMaps
set_option linter.unusedSimpArgs false
set_option linter.unusedVariables false
theorem actHolds_any (c:Ck) (s:ByteArray) (x1:Option Addr) (y1:Nat) (x2:Option Addr) (y2:Nat) (x3:Option Addr) (n3 y3:Nat) (iv:Value) (x:Ac) (aa:Option Addr) (cp:Nat) (ab:Option Addr) (cb:Nat) (ao:Option Addr) (co:Nat) (w:World) (hC:CkAt w c (.agg #[.string s,.slice x1 c.uses y1,.int .i64 c.data,.slice x2 c.parts.length y2,.slice x3 n3 y3,iv,.int .i64 c.locals])) (hm:(Lit.int .i64 x.m).wf=true) (ha:(Lit.int .i64 x.at_).wf=true) (hl:x.args.length<=17592186044416) :
 Calls Tryz.prog 169 #[.agg #[.string s,.slice x1 c.uses y1,.int .i64 c.data,.slice x2 c.parts.length y2,.slice x3 n3 y3,iv,.int .i64 c.locals],.agg #[.int .i64 x.op,.int .i64 x.n,.int .i64 x.m,.int .i64 x.at_,.slice aa x.args.length cp,.slice ab x.body.length cb,.slice ao x.other.length co]] w fun e w'=>e = .returned (.bool (actA c x))/\Below w.heap.size w w':=by
 obtain ⟨op,n,m,at_,args,body,other⟩:=x;simp only [Ac.op,Ac.n,Ac.m,Ac.at_,Ac.args,Ac.body,Ac.other] at *;have HC:=hid hC;have HM:=hid hm;have HA:=hid ha;clear hC hm ha
 by_cases o1:op=1
 . subst o1
   by_cases om:m = -1
   . subst om
     by_cases t2:args.length=1
     . by_cases t1:n=0
       . have HR:Hid (actA c (.mk 1 n (-1) at_ args body other)=locB c at_):=by show _=_;unfold actA;simp only [Ac.op,Ac.n,Ac.m,Ac.at_,Ac.args];simp [*]
         go_enter Tryz.func169,Tryz.ntmps169;go_wp2_with fail;refine (localHolds_any c s x1 y1 x2 y2 x3 n3 y3 iv at_ _).mono ?_;rintro e w1 ⟨rfl,hb1⟩;have HB1:=hid (thenB (al2 w _ _) hb1);clear hb1;go_wp2_with fail;go_ret;exact ⟨ret_bool (by first | exact HR.out.symm | (rw [HR.out];first | (simp;omega) | (simp [*];done))),HB1.out⟩
       . have HR:Hid (actA c (.mk 1 n (-1) at_ args body other)=false):=by show _=_;unfold actA;simp only [Ac.op,Ac.n,Ac.m,Ac.at_,Ac.args];simp [*]
         have t':n≠0:=by omega
         clear t1;go_enter Tryz.func169,Tryz.ntmps169;go_wp2_with fail;go_ret;exact ⟨ret_bool (by first | exact HR.out.symm | (rw [HR.out];first | (simp;omega) | (simp [*];done))),al2 _ _ _⟩
     . have HR:Hid (actA c (.mk 1 n (-1) at_ args body other)=false):=by show _=_;unfold actA;simp only [Ac.op,Ac.n,Ac.m,Ac.at_,Ac.args];simp [*]
       have t':args.length≠1:=by omega
       clear t2;go_enter Tryz.func169,Tryz.ntmps169;go_wp2_with fail;go_ret;exact ⟨ret_bool (by first | exact HR.out.symm | (rw [HR.out];first | (simp;omega) | (simp [*];done))),al2 _ _ _⟩
   . by_cases t2:args.length=1
     . by_cases t1:n=0
       . have HR:Hid (actA c (.mk 1 n m at_ args body other)=numB c m at_ 1):=by show _=_;unfold actA;simp only [Ac.op,Ac.n,Ac.m,Ac.at_,Ac.args];simp [*]
         go_enter Tryz.func169,Tryz.ntmps169;go_wp2_with fail;refine (HC.out.num _ (al2 _ _ _) m at_ 1 HM.out HA.out (by decide) (by decide)).mono ?_;rintro e w1 ⟨rfl,hb1⟩;have HB1:=hid (thenB (al2 w _ _) hb1);clear hb1;go_wp2_with fail;go_ret;exact ⟨ret_bool (by first | exact HR.out.symm | (rw [HR.out];first | (simp;omega) | (simp [*];done))),HB1.out⟩
       . have HR:Hid (actA c (.mk 1 n m at_ args body other)=false):=by show _=_;unfold actA;simp only [Ac.op,Ac.n,Ac.m,Ac.at_,Ac.args];simp [*]
         have t':n≠0:=by omega
         clear t1;go_enter Tryz.func169,Tryz.ntmps169;go_wp2_with fail;go_ret;exact ⟨ret_bool (by first | exact HR.out.symm | (rw [HR.out];first | (simp;omega) | (simp [*];done))),al2 _ _ _⟩
     . have HR:Hid (actA c (.mk 1 n m at_ args body other)=false):=by show _=_;unfold actA;simp only [Ac.op,Ac.n,Ac.m,Ac.at_,Ac.args];simp [*]
       have t':args.length≠1:=by omega
       clear t2;go_enter Tryz.func169,Tryz.ntmps169;go_wp2_with fail;go_ret;exact ⟨ret_bool (by first | exact HR.out.symm | (rw [HR.out];first | (simp;omega) | (simp [*];done))),al2 _ _ _⟩
 by_cases o2:op=2
 . subst o2
   by_cases t1:args.length=2
   . have HR:Hid (actA c (.mk 2 n m at_ args body other)=arrB c n m at_):=by show _=_;unfold actA;simp only [Ac.op,Ac.n,Ac.m,Ac.at_,Ac.args];simp [*]
     go_enter Tryz.func169,Tryz.ntmps169;go_wp2_with fail;refine (arrayHolds_any c s x1 y1 x2 y2 x3 n3 y3 iv n m at_ _ (HC.out.later (al2 _ _ _)) HM.out HA.out).mono ?_;rintro e w1 ⟨rfl,hb1⟩;have HB1:=hid (thenB (al2 w _ _) hb1);clear hb1;go_wp2_with fail;go_ret;exact ⟨ret_bool (by first | exact HR.out.symm | (rw [HR.out];first | (simp;omega) | (simp [*];done))),HB1.out⟩
   . have HR:Hid (actA c (.mk 2 n m at_ args body other)=false):=by show _=_;unfold actA;simp only [Ac.op,Ac.n,Ac.m,Ac.at_,Ac.args];simp [*]
     have t':args.length≠2:=by omega
     clear t1;go_enter Tryz.func169,Tryz.ntmps169;go_wp2_with fail;go_ret;exact ⟨ret_bool (by first | exact HR.out.symm | (rw [HR.out];first | (simp;omega) | (simp [*];done))),al2 _ _ _⟩
 by_cases o3:op=3
 . subst o3
   by_cases t1:n=0
   . have HR:Hid (actA c (.mk 3 n m at_ args body other)=prtB c m at_ args.length):=by show _=_;unfold actA;simp only [Ac.op,Ac.n,Ac.m,Ac.at_,Ac.args];simp [*]
     go_enter Tryz.func169,Tryz.ntmps169;go_wp2_with fail;refine (HC.out.prt _ (al2 _ _ _) m at_ args.length HM.out HA.out hl).mono ?_;rintro e w1 ⟨rfl,hb1⟩;have HB1:=hid (thenB (al2 w _ _) hb1);clear hb1;go_wp2_with fail;go_ret;exact ⟨ret_bool (by first | exact HR.out.symm | (rw [HR.out];first | (simp;omega) | (simp [*];done))),HB1.out⟩
   . have HR:Hid (actA c (.mk 3 n m at_ args body other)=false):=by show _=_;unfold actA;simp only [Ac.op,Ac.n,Ac.m,Ac.at_,Ac.args];simp [*]
     have t':n≠0:=by omega
     clear t1;go_enter Tryz.func169,Tryz.ntmps169;go_wp2_with fail;go_ret;exact ⟨ret_bool (by first | exact HR.out.symm | (rw [HR.out];first | (simp;omega) | (simp [*];done))),al2 _ _ _⟩
 by_cases o4:op=4
 . subst o4
   by_cases t4:args.length=1
   . by_cases t3:n=0
     . by_cases t2:m=0
       . by_cases t1:at_=0
         . have HR:Hid (actA c (.mk 4 n m at_ args body other)=true):=by show _=_;unfold actA;simp only [Ac.op,Ac.n,Ac.m,Ac.at_,Ac.args];simp [*]
           go_enter Tryz.func169,Tryz.ntmps169;go_wp2_with fail;go_ret;exact ⟨ret_bool (by first | exact HR.out.symm | (rw [HR.out];first | (simp;omega) | (simp [*];done))),al2 _ _ _⟩
         . have HR:Hid (actA c (.mk 4 n m at_ args body other)=false):=by show _=_;unfold actA;simp only [Ac.op,Ac.n,Ac.m,Ac.at_,Ac.args];simp [*]
           have t':at_≠0:=by omega
           clear t1;go_enter Tryz.func169,Tryz.ntmps169;go_wp2_with fail;go_ret;exact ⟨ret_bool (by first | exact HR.out.symm | (rw [HR.out];first | (simp;omega) | (simp [*];done))),al2 _ _ _⟩
       . have HR:Hid (actA c (.mk 4 n m at_ args body other)=false):=by show _=_;unfold actA;simp only [Ac.op,Ac.n,Ac.m,Ac.at_,Ac.args];simp [*]
         have t':m≠0:=by omega
         clear t2;go_enter Tryz.func169,Tryz.ntmps169;go_wp2_with fail;go_ret;exact ⟨ret_bool (by first | exact HR.out.symm | (rw [HR.out];first | (simp;omega) | (simp [*];done))),al2 _ _ _⟩
     . have HR:Hid (actA c (.mk 4 n m at_ args body other)=false):=by show _=_;unfold actA;simp only [Ac.op,Ac.n,Ac.m,Ac.at_,Ac.args];simp [*]
       have t':n≠0:=by omega
       clear t3;go_enter Tryz.func169,Tryz.ntmps169;go_wp2_with fail;go_ret;exact ⟨ret_bool (by first | exact HR.out.symm | (rw [HR.out];first | (simp;omega) | (simp [*];done))),al2 _ _ _⟩
   . have HR:Hid (actA c (.mk 4 n m at_ args body other)=false):=by show _=_;unfold actA;simp only [Ac.op,Ac.n,Ac.m,Ac.at_,Ac.args];simp [*]
     have t':args.length≠1:=by omega
     clear t4;go_enter Tryz.func169,Tryz.ntmps169;go_wp2_with fail;go_ret;exact ⟨ret_bool (by first | exact HR.out.symm | (rw [HR.out];first | (simp;omega) | (simp [*];done))),al2 _ _ _⟩
 by_cases o5:op=5
 . subst o5
   by_cases t4:args.length=1
   . by_cases t3:n=0
     . by_cases t2:m=0
       . by_cases t1:at_=0
         . have HR:Hid (actA c (.mk 5 n m at_ args body other)=true):=by show _=_;unfold actA;simp only [Ac.op,Ac.n,Ac.m,Ac.at_,Ac.args];simp [*]
           go_enter Tryz.func169,Tryz.ntmps169;go_wp2_with fail;go_ret;exact ⟨ret_bool (by first | exact HR.out.symm | (rw [HR.out];first | (simp;omega) | (simp [*];done))),al2 _ _ _⟩
         . have HR:Hid (actA c (.mk 5 n m at_ args body other)=false):=by show _=_;unfold actA;simp only [Ac.op,Ac.n,Ac.m,Ac.at_,Ac.args];simp [*]
           have t':at_≠0:=by omega
           clear t1;go_enter Tryz.func169,Tryz.ntmps169;go_wp2_with fail;go_ret;exact ⟨ret_bool (by first | exact HR.out.symm | (rw [HR.out];first | (simp;omega) | (simp [*];done))),al2 _ _ _⟩
       . have HR:Hid (actA c (.mk 5 n m at_ args body other)=false):=by show _=_;unfold actA;simp only [Ac.op,Ac.n,Ac.m,Ac.at_,Ac.args];simp [*]
         have t':m≠0:=by omega
         clear t2;go_enter Tryz.func169,Tryz.ntmps169;go_wp2_with fail;go_ret;exact ⟨ret_bool (by first | exact HR.out.symm | (rw [HR.out];first | (simp;omega) | (simp [*];done))),al2 _ _ _⟩
     . have HR:Hid (actA c (.mk 5 n m at_ args body other)=false):=by show _=_;unfold actA;simp only [Ac.op,Ac.n,Ac.m,Ac.at_,Ac.args];simp [*]
       have t':n≠0:=by omega
       clear t3;go_enter Tryz.func169,Tryz.ntmps169;go_wp2_with fail;go_ret;exact ⟨ret_bool (by first | exact HR.out.symm | (rw [HR.out];first | (simp;omega) | (simp [*];done))),al2 _ _ _⟩
   . have HR:Hid (actA c (.mk 5 n m at_ args body other)=false):=by show _=_;unfold actA;simp only [Ac.op,Ac.n,Ac.m,Ac.at_,Ac.args];simp [*]
     have t':args.length≠1:=by omega
     clear t4;go_enter Tryz.func169,Tryz.ntmps169;go_wp2_with fail;go_ret;exact ⟨ret_bool (by first | exact HR.out.symm | (rw [HR.out];first | (simp;omega) | (simp [*];done))),al2 _ _ _⟩
 by_cases o6:op=6
 . subst o6
   by_cases t4:args.length=1
   . by_cases t3:n=0
     . by_cases t2:m=0
       . by_cases t1:at_=0
         . have HR:Hid (actA c (.mk 6 n m at_ args body other)=true):=by show _=_;unfold actA;simp only [Ac.op,Ac.n,Ac.m,Ac.at_,Ac.args];simp [*]
           go_enter Tryz.func169,Tryz.ntmps169;go_wp2_with fail;go_ret;exact ⟨ret_bool (by first | exact HR.out.symm | (rw [HR.out];first | (simp;omega) | (simp [*];done))),al2 _ _ _⟩
         . have HR:Hid (actA c (.mk 6 n m at_ args body other)=false):=by show _=_;unfold actA;simp only [Ac.op,Ac.n,Ac.m,Ac.at_,Ac.args];simp [*]
           have t':at_≠0:=by omega
           clear t1;go_enter Tryz.func169,Tryz.ntmps169;go_wp2_with fail;go_ret;exact ⟨ret_bool (by first | exact HR.out.symm | (rw [HR.out];first | (simp;omega) | (simp [*];done))),al2 _ _ _⟩
       . have HR:Hid (actA c (.mk 6 n m at_ args body other)=false):=by show _=_;unfold actA;simp only [Ac.op,Ac.n,Ac.m,Ac.at_,Ac.args];simp [*]
         have t':m≠0:=by omega
         clear t2;go_enter Tryz.func169,Tryz.ntmps169;go_wp2_with fail;go_ret;exact ⟨ret_bool (by first | exact HR.out.symm | (rw [HR.out];first | (simp;omega) | (simp [*];done))),al2 _ _ _⟩
     . have HR:Hid (actA c (.mk 6 n m at_ args body other)=false):=by show _=_;unfold actA;simp only [Ac.op,Ac.n,Ac.m,Ac.at_,Ac.args];simp [*]
       have t':n≠0:=by omega
       clear t3;go_enter Tryz.func169,Tryz.ntmps169;go_wp2_with fail;go_ret;exact ⟨ret_bool (by first | exact HR.out.symm | (rw [HR.out];first | (simp;omega) | (simp [*];done))),al2 _ _ _⟩
   . have HR:Hid (actA c (.mk 6 n m at_ args body other)=false):=by show _=_;unfold actA;simp only [Ac.op,Ac.n,Ac.m,Ac.at_,Ac.args];simp [*]
     have t':args.length≠1:=by omega
     clear t4;go_enter Tryz.func169,Tryz.ntmps169;go_wp2_with fail;go_ret;exact ⟨ret_bool (by first | exact HR.out.symm | (rw [HR.out];first | (simp;omega) | (simp [*];done))),al2 _ _ _⟩
 by_cases o7:op=7
 . subst o7
   by_cases t4:args.length=1
   . by_cases t3:n=0
     . by_cases t2:m=0
       . by_cases t1:at_=0
         . have HR:Hid (actA c (.mk 7 n m at_ args body other)=true):=by show _=_;unfold actA;simp only [Ac.op,Ac.n,Ac.m,Ac.at_,Ac.args];simp [*]
           go_enter Tryz.func169,Tryz.ntmps169;go_wp2_with fail;go_ret;exact ⟨ret_bool (by first | exact HR.out.symm | (rw [HR.out];first | (simp;omega) | (simp [*];done))),al2 _ _ _⟩
         . have HR:Hid (actA c (.mk 7 n m at_ args body other)=false):=by show _=_;unfold actA;simp only [Ac.op,Ac.n,Ac.m,Ac.at_,Ac.args];simp [*]
           have t':at_≠0:=by omega
           clear t1;go_enter Tryz.func169,Tryz.ntmps169;go_wp2_with fail;go_ret;exact ⟨ret_bool (by first | exact HR.out.symm | (rw [HR.out];first | (simp;omega) | (simp [*];done))),al2 _ _ _⟩
       . have HR:Hid (actA c (.mk 7 n m at_ args body other)=false):=by show _=_;unfold actA;simp only [Ac.op,Ac.n,Ac.m,Ac.at_,Ac.args];simp [*]
         have t':m≠0:=by omega
         clear t2;go_enter Tryz.func169,Tryz.ntmps169;go_wp2_with fail;go_ret;exact ⟨ret_bool (by first | exact HR.out.symm | (rw [HR.out];first | (simp;omega) | (simp [*];done))),al2 _ _ _⟩
     . have HR:Hid (actA c (.mk 7 n m at_ args body other)=false):=by show _=_;unfold actA;simp only [Ac.op,Ac.n,Ac.m,Ac.at_,Ac.args];simp [*]
       have t':n≠0:=by omega
       clear t3;go_enter Tryz.func169,Tryz.ntmps169;go_wp2_with fail;go_ret;exact ⟨ret_bool (by first | exact HR.out.symm | (rw [HR.out];first | (simp;omega) | (simp [*];done))),al2 _ _ _⟩
   . have HR:Hid (actA c (.mk 7 n m at_ args body other)=false):=by show _=_;unfold actA;simp only [Ac.op,Ac.n,Ac.m,Ac.at_,Ac.args];simp [*]
     have t':args.length≠1:=by omega
     clear t4;go_enter Tryz.func169,Tryz.ntmps169;go_wp2_with fail;go_ret;exact ⟨ret_bool (by first | exact HR.out.symm | (rw [HR.out];first | (simp;omega) | (simp [*];done))),al2 _ _ _⟩
 have HR:Hid (actA c (.mk op n m at_ args body other)=false):=by
  show _=_;unfold actA;exact (if_neg o1).trans ((if_neg o2).trans ((if_neg o3).trans (if_neg (by show ¬ (4<=op/\op<=7);omega))))
 go_enter Tryz.func169,Tryz.ntmps169;go_wp2_with fail;go_ret;exact ⟨ret_bool (by first | exact HR.out.symm | (rw [HR.out];first | (simp;omega) | (simp [*];done))),al2 _ _ _⟩
end Go.Proofs.YtndkhgakfodldaaGreatDoor

namespace Go.Proofs.YtndkhgakfodldaaGreatDoor
set_option maxRecDepth 100000
set_option maxHeartbeats 1600000
open Go.RowKit Go.Maps Go.WideMaps
set_option linter.unusedSimpArgs false
set_option linter.unusedVariables false
theorem nodesHold_nil (c:Ck) (s:ByteArray) (x1:Option Addr) (y1:Nat) (x2:Option Addr) (y2:Nat) (x3:Option Addr) (n3 y3:Nat) (iv:Value) (a:Option Addr) (cap:Nat) (deep:Int) (w:World) :
 Calls Tryz.prog 170 #[.agg #[.string s,.slice x1 c.uses y1,.int .i64 c.data,.slice x2 c.parts.length y2,.slice x3 n3 y3,iv,.int .i64 c.locals],.slice a 0 cap,.int .i64 deep] w fun e w'=>e = .returned (.bool true)/\Below w.heap.size w w':=by
 go_enter Tryz.func170,Tryz.ntmps170;go_wp2_with fail
 go_loopw [18] (fun i wr=>i = .int .i64 0/\Below w.heap.size w wr) (fun _ _=>0)
 case atStart=>exact ⟨rfl,al1 _ _⟩
 case round=>
  obtain ⟨rfl,hb⟩:=hrel;have HB:=hid hb;clear hb;go_wp2_with fail;go_ret;exact ⟨rfl,HB.out⟩
theorem nodesHold_deep (c:Ck) (s:ByteArray) (x1:Option Addr) (y1:Nat) (x2:Option Addr) (y2:Nat) (x3:Option Addr) (n3 y3:Nat) (iv:Value) (a:Option Addr) (n cap:Nat) (w:World) (hn:0<n) :
 Calls Tryz.prog 170 #[.agg #[.string s,.slice x1 c.uses y1,.int .i64 c.data,.slice x2 c.parts.length y2,.slice x3 n3 y3,iv,.int .i64 c.locals],.slice a n cap,.int .i64 7] w fun e w'=>e = .returned (.bool false)/\Below w.heap.size w w':=by
 go_enter Tryz.func170,Tryz.ntmps170;go_wp2_with fail;go_ret;exact ⟨rfl,al1 _ _⟩
theorem ndsB_nil (c:Ck) (k:Nat):ndsB c k []=true:=by cases k<;>simp [ndsB]
theorem nodesHold_any (c:Ck) (s:ByteArray) (x1:Option Addr) (y1:Nat) (x2:Option Addr) (y2:Nat) (x3:Option Addr) (n3 y3:Nat) (iv:Value):∀ (k:Nat),k<=6->∀ (l:List Nd) (A:Nat->Prop) (a:Option Addr) (cap:Nat) (deep:Int) (w:World),deep=7 - (k:Int)->DAt w A a l.length (ndsD l)->CkAt w c (.agg #[.string s,.slice x1 c.uses y1,.int .i64 c.data,.slice x2 c.parts.length y2,.slice x3 n3 y3,iv,.int .i64 c.locals])->
 Calls Tryz.prog 170 #[.agg #[.string s,.slice x1 c.uses y1,.int .i64 c.data,.slice x2 c.parts.length y2,.slice x3 n3 y3,iv,.int .i64 c.locals],.slice a l.length cap,.int .i64 deep] w fun e w'=>e = .returned (.bool (ndsB c k l))/\Below w.heap.size w w'
 | 0,_,l,A,a,cap,deep,w,hd,_,_=>by
   obtain rfl:deep=7:=by omega
   rcases Nat.eq_zero_or_pos l.length with h0 | h0
   . obtain rfl:=List.eq_nil_of_length_eq_zero h0
     exact nodesHold_nil c s x1 y1 x2 y2 x3 n3 y3 iv a cap 7 w
   . have:ndsB c 0 l=false:=by simp only [ndsB];exact decide_eq_false (by omega)
     rw [this];exact nodesHold_deep c s x1 y1 x2 y2 x3 n3 y3 iv a l.length cap w h0
 | k + 1, hk,l,A,a,cap,deep,w,hd,hD,hC=>by
   have HI:=hid (fun (l:List Nd) (A:Nat->Prop) (a:Option Addr) (cap:Nat) (w:World)=>nodesHold_any c s x1 y1 x2 y2 x3 n3 y3 iv k (by omega) l A a cap (deep+1) w (by omega))
   rcases Nat.eq_zero_or_pos l.length with h0 | h0
   . obtain rfl:=List.eq_nil_of_length_eq_zero h0
     rw [ndsB_nil];exact nodesHold_nil c s x1 y1 x2 y2 x3 n3 y3 iv a cap deep w
   have HR:Hid (ndsB c (k+1) l=l.all (fun x=>nodeA c x&&ndsB c k x.args)):=by show _=_;simp [ndsB]
   have hbd:=hD.bound
   have hd1:1<=deep:=by omega
   have hd6:deep<=6:=by omega
   have HD:=hid hD;have HC:=hid hC;clear hD hC hd;go_enter Tryz.func170,Tryz.ntmps170;go_wp2_with fail
   go_loopw [18] (fun i wr=>∃ j:Nat,j<=l.length/\i = .int .i64 j/\(l.take j).all (fun x=>nodeA c x&&ndsB c k x.args)=true/\Below w.heap.size w wr/\wr.heap[w.heap.size]? = some (.cells #[.string s,.slice x1 c.uses y1,.int .i64 c.data,.slice x2 c.parts.length y2,.slice x3 n3 y3,iv,.int .i64 c.locals] 206)) (fun i _=>l.length - (intOf i).toNat)
   case atStart=>exact ⟨0,Nat.zero_le _,rfl,rfl,al1 _ _,heap_newP _ _⟩
   case round=>
    obtain ⟨j,hj,rfl,hall,hb,hB⟩:=hrel;obtain ⟨q0,q1,q2,q3,q4,q5,q6,qz⟩:=cells7 hB;have HB:=hid hb;have HX:=hid hB;have HL:=hid hall;clear hall hB hb
    by_cases hlt:j<l.length
    . obtain ⟨b,off,aa,cp,rfl,hx⟩:=(HD.out.later HB.out).nd j hlt
      have HF:=hid (fun (h:(nodeA c l[j]&&ndsB c k l[j].args)=false)=>all_not l (fun x=>nodeA c x&&ndsB c k x.args) j hlt h);have HT:=hid (fun (h:(nodeA c l[j]&&ndsB c k l[j].args)=true)=>(by rw [all_snoc l _ j hlt,HL.out,h];rfl:(l.take (j+1)).all (fun x=>nodeA c x&&ndsB c k x.args)=true));obtain ⟨hbl,x0,x1',x2',x3',x4,hargs,_,_,hm,hat⟩:=hx;have HA:=hid hargs;have hal:=hargs.bound;have HM:=hid hm;have HAt:=hid hat;clear hargs hm hat;generalize l[j]=x at *;go_wp2_with fail;refine (nodeHolds_any c s x1 y1 x2 y2 x3 n3 y3 iv x aa cp _ (HC.out.later (thenB HB.out (al1 _ _))) HM.out HAt.out hal).mono ?_
      cases h1:nodeA c x with
      | false=>
        rintro e w3 ⟨rfl,hb3⟩;have HB3:=hid (thenB HB.out (thenB (al1 _ _) hb3));have HF':=hid (HF.out (by rw [h1];rfl));clear hb3;go_wp2_with fail;go_ret;exact ⟨ret_bool (by rw [HR.out,HF'.out]),HB3.out⟩
      | true=>
        rintro e w3 ⟨rfl,hb3⟩;have HB3:=hid (thenB (al1 wr _) hb3);have p1:=(HB3.out.block _ (lt_of_heap HX.out)).trans HX.out;have p2:=(hb3.block _ (by simp)).trans (heap_newP wr (.cells #[.int .i64 x.op,.int .i64 x.n,.int .i64 x.m,.int .i64 x.at_,.slice aa x.args.length cp] 253));have HX3:=hid p1;clear q0 q1 q2 q3 q4 q5 q6 qz x0 x1' x2' x3' x4 hbl;obtain ⟨q0,q1,q2,q3,q4,q5,q6,qz⟩:=cells7 p1;obtain ⟨z0,z1,z2,z3,z4,_⟩:=cellsOf5 p2;have zz:=lt_of_heap p2;clear hb3 p1 p2;go_wp2_with fail;refine (HI.out x.args A aa cp _ (HA.out.later HB3.out) (HC.out.later (thenB HB.out HB3.out))).mono ?_
        cases h2:ndsB c k x.args with
        | false=>
          rintro e w4 ⟨rfl,hb4⟩;have HB4:=hid (thenB (thenB HB.out HB3.out) hb4);have HF':=hid (HF.out (by rw [h1,h2];rfl));clear hb4;go_wp2_with fail;go_ret;exact ⟨ret_bool (by rw [HR.out,HF'.out]),HB4.out⟩
        | true=>
          rintro e w4 ⟨rfl,hb4⟩;have HB4:=hid (thenB (thenB HB.out HB3.out) hb4);have HX4:=hid ((hb4.block _ (lt_of_heap HX3.out)).trans HX3.out);have HT':=hid (HT.out (by rw [h1,h2];rfl));clear hb4;go_wp2_with fail;go_roundw
          case rel=>exact ⟨j+1,by omega,by go_num,HT'.out,HB4.out,HX4.out⟩
          case measure=>simp [intOf];omega
    . have HT:Hid (l.all (fun x=>nodeA c x&&ndsB c k x.args)=true):=all_end HL.out hlt
      go_wp2_with fail;go_ret;exact ⟨ret_bool (by rw [HR.out,HT.out]),HB.out⟩
end Go.Proofs.YtndkhgakfodldaaGreatDoor
