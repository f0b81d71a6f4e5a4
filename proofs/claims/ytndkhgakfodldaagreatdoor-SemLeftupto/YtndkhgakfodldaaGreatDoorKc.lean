import Derived.Test.YtndkhgakfodldaaGreatDoorUi
namespace Go.Proofs.YtndkhgakfodldaaGreatDoor
set_option maxRecDepth 100000
set_option maxHeartbeats 1600000
open Go.RowKit Go.Maps Go.WideMaps
set_option linter.unusedSimpArgs false
set_option linter.unusedVariables false
theorem zds {w:World} {b:Nat} {x0 x1 x2 x3 x4 x5 x6:Value} {t:TypeId} (h:w.heap[b]? = some (.cells #[x0,x1,x2,x3,x4,x5,x6] t (0,0))) :
 w.cell? ⟨b,0,none⟩=some x0/\w.cell? ⟨b,1,none⟩=some x1/\w.cell? ⟨b,2,none⟩=some x2/\w.cell? ⟨b,3,none⟩=some x3/\w.cell? ⟨b,4,none⟩=some x4/\w.cell? ⟨b,5,none⟩=some x5/\w.cell? ⟨b,6,none⟩=some x6/\b<w.heap.size:=by
 refine ⟨?_,?_,?_,?_,?_,?_,?_,zab h⟩<;>(rw [vee h];rfl)
theorem z1n (w:World) (o p:Obj):((w.alloc o).alloc p).heap[w.heap.size+1]? = some p:=by simpa using heap_newP (w.alloc o) p
theorem z29 (av:OA) (nv cv:Nat) (w:World):(nilAhead 337 199 (.slice av nv cv) "HasNumbers").run Tryz.prog w = .ok (some false) w:=by kernel_rfl
theorem z3a (av:OA) (nv cv:Nat) (w:World):(nilAhead 337 199 (.slice av nv cv) "HasPart").run Tryz.prog w = .ok (some false) w:=by kernel_rfl
theorem z3b (av:OA) (nv cv:Nat) (w:World):(method 337 199 (.slice av nv cv) "HasNumbers").run Tryz.prog w = .ok (329,.slice av nv cv) w:=by kernel_rfl
theorem z3c (av:OA) (nv cv:Nat) (w:World):(method 337 199 (.slice av nv cv) "HasPart").run Tryz.prog w = .ok (330,.slice av nv cv) w:=by kernel_rfl
theorem zw9 (c:Ck) (s:ByteArray) (x1:OA) (y1:Nat) (x2:OA) (y2:Nat) (x3:OA) (n3 y3:Nat) (av:OA) (nv cv:Nat) (m at_ n:Int) (w:World) (hd0:0<=c.data) (hd1:c.data<=512) (hu:c.uses<=17592186044416) (hU:UsAt w c 329 330 (.slice av nv cv)) (hm:(Lit.int .i64 m).wf=true) (ha:(Lit.int .i64 at_).wf=true) (h1:1<=n) (h2:n<=32) :
 Calls Tryz.prog 210 #[.agg #[.string s,.slice x1 c.uses y1,.int .i64 c.data,.slice x2 c.parts.length y2,.slice x3 n3 y3,.iface 199 (.slice av nv cv),.int .i64 c.locals],.int .i64 m,.int .i64 at_,.int .i64 n] w fun e w'=>e = .returned (.bool (numB c m at_ n))/\Below w.heap.size w w':=by
 have HU:=hid hU;have HA:=hid ha;clear hU ha hm;have n1:=z29 av nv cv;have n2:=z3b av nv cv
 by_cases h0:m=0
 . subst h0
   have HR:Hid (numB c 0 at_ n=zwf c.data at_ n):=if_pos rfl;go_enter Tryz.func210,Tryz.ntmps210;go_wp2_with fail;refine (zn6 c.data at_ n _ hd0 hd1 h1 h2 HA.out).mono ?_;rintro e w1 ⟨rfl,rfl⟩;go_wp2_with fail;go_ret;exact ⟨zaa HR.out.symm,al1 _ _⟩
 . have HR:Hid (numB c m at_ n=(zsy c m&&c.num m at_ n)):=if_neg h0
   have HI:=hid (zn7 c s x1 y1 x2 y2 x3 n3 y3 (.iface 199 (.slice av nv cv)) m (w.alloc (.cells #[.string s,.slice x1 c.uses y1,.int .i64 c.data,.slice x2 c.parts.length y2,.slice x3 n3 y3,.iface 199 (.slice av nv cv),.int .i64 c.locals] 206)))
   cases hb:zsy c m with
   | false=>
     rw [hb] at HI HR;go_enter Tryz.func210,Tryz.ntmps210;go_wp2_with fail;refine HI.out.mono ?_;rintro e w1 ⟨rfl,hb1⟩;have HB1:=hid (thenB (al1 w _) hb1);clear hb1;go_wp2_with fail;go_ret;exact ⟨zaa HR.out.symm,HB1.out⟩
   | true=>
     rw [hb] at HI HR;have HUb:=hid hb;clear hb;go_enter Tryz.func210,Tryz.ntmps210;go_wp2_with fail;refine HI.out.mono ?_;rintro e w1 ⟨rfl,hb1⟩;have HB1:=hid (thenB (al1 w _) hb1);have q1:=(hb1.block _ (by simp)).trans (heap_newP w (.cells #[.string s,.slice x1 c.uses y1,.int .i64 c.data,.slice x2 c.parts.length y2,.slice x3 n3 y3,.iface 199 (.slice av nv cv),.int .i64 c.locals] 206));obtain ⟨c0,c1,c2,c3,c4,c5,c6,cz⟩:=zds q1;clear hb1 q1 c0 c1 c2 c3 c4 c6 HI
     go_wp2_with (go_at_call 329;refine (HU.out.num _ HB1.out m at_ n HUb.out HA.out h1 h2).mono ?_;rintro e w2 ⟨rfl,hb2⟩;have HB2:=hid (thenB HB1.out hb2);clear hb2)
     go_ret;exact ⟨zaa (by rw [HR.out];rfl),HB2.out⟩
theorem z3d (c:Ck) (s:ByteArray) (x1:OA) (y1:Nat) (x2:OA) (y2:Nat) (x3:OA) (n3 y3:Nat) (av:OA) (nv cv:Nat) (m at_:Int) (k:Nat) (w:World) (hP:DAt w Tt x2 c.parts.length (zjt c.parts)) (hu:c.uses<=17592186044416) (hU:UsAt w c 329 330 (.slice av nv cv)) (hm:(Lit.int .i64 m).wf=true) (ha:(Lit.int .i64 at_).wf=true) (hk:k<=17592186044416) :
 Calls Tryz.prog 212 #[.agg #[.string s,.slice x1 c.uses y1,.int .i64 c.data,.slice x2 c.parts.length y2,.slice x3 n3 y3,.iface 199 (.slice av nv cv),.int .i64 c.locals],.int .i64 m,.int .i64 at_,.int .i64 k] w fun e w'=>e = .returned (.bool (zom c m at_ k))/\Below w.heap.size w w':=by
 have HU:=hid hU;have HA:=hid ha;have HP:=hid hP;have hpb:=hP.bound;clear hU ha hm hP;have n1:=z3a av nv cv;have n2:=z3c av nv cv
 by_cases h0:m=0
 . subst h0
   have HR:Hid (zom c 0 at_ k=zpz c.parts at_ k):=if_pos rfl
   by_cases t1:0<=at_
   . obtain ⟨i,rfl⟩:∃ i:Nat,at_=i:=⟨at_.toNat,by omega⟩
     by_cases t2:i<c.parts.length
     . obtain ⟨b,off,ab,cb,rfl,hx⟩:=(HP.out.later (al1 w (.cells #[.string s,.slice x1 c.uses y1,.int .i64 c.data,.slice x2 c.parts.length y2,.slice x3 n3 y3,.iface 199 (.slice av nv cv),.int .i64 c.locals] 206))).pt i t2
       have HQ:Hid (zpz c.parts i k=decide (c.parts[i].params=k)):=by show _=_;unfold zpz;rw [decide_eq_true t1,vbf,vaj t2];rfl
       obtain ⟨hbl,p0,_,_,_,_,_⟩:=hx
       have t2':(i:Int)<c.parts.length:=by omega
       have pz:b<w.heap.size+1:=by simpa using hbl
       generalize c.parts[i].params=pp at *
       by_cases t3:pp=k
       . have HR':Hid (zom c 0 i k=true):=by show _=_;rw [HR.out,HQ.out,decide_eq_true t3]
         subst t3;go_enter Tryz.func212,Tryz.ntmps212;go_wp2_with fail;go_ret;exact ⟨zaa HR'.out.symm,al1 _ _⟩
       . have HR':Hid (zom c 0 i k=false):=by show _=_;rw [HR.out,HQ.out,decide_eq_false t3]
         go_enter Tryz.func212,Tryz.ntmps212;go_wp2_with fail;go_ret;exact ⟨zaa (by first | exact HR'.out.symm | (rw [HR'.out];first | (simp;omega) | (simp [*];done))),al1 _ _⟩
     . have HR':Hid (zom c 0 i k=false):=by show _=_;rw [HR.out];unfold zpz;rw [vbf,vbi (by omega)];simp
       have t2':c.parts.length<=i:=by omega
       clear t2;go_enter Tryz.func212,Tryz.ntmps212;go_wp2_with fail;go_ret;exact ⟨zaa HR'.out.symm,al1 _ _⟩
   . have HR':Hid (zom c 0 at_ k=false):=by show _=_;rw [HR.out];unfold zpz;rw [decide_eq_false t1];rfl
     have t1':at_<0:=by omega
     clear t1;go_enter Tryz.func212,Tryz.ntmps212;go_wp2_with fail;go_ret;exact ⟨zaa HR'.out.symm,al1 _ _⟩
 . have HR:Hid (zom c m at_ k=(zsy c m&&c.prt m at_ k)):=if_neg h0
   have HI:=hid (zn7 c s x1 y1 x2 y2 x3 n3 y3 (.iface 199 (.slice av nv cv)) m (w.alloc (.cells #[.string s,.slice x1 c.uses y1,.int .i64 c.data,.slice x2 c.parts.length y2,.slice x3 n3 y3,.iface 199 (.slice av nv cv),.int .i64 c.locals] 206)))
   cases hb:zsy c m with
   | false=>
     rw [hb] at HI HR;go_enter Tryz.func212,Tryz.ntmps212;go_wp2_with fail;refine HI.out.mono ?_;rintro e w1 ⟨rfl,hb1⟩;have HB1:=hid (thenB (al1 w _) hb1);clear hb1;go_wp2_with fail;go_ret;exact ⟨zaa HR.out.symm,HB1.out⟩
   | true=>
     rw [hb] at HI HR;have HUb:=hid hb;clear hb;go_enter Tryz.func212,Tryz.ntmps212;go_wp2_with fail;refine HI.out.mono ?_;rintro e w1 ⟨rfl,hb1⟩;have HB1:=hid (thenB (al1 w _) hb1);have q1:=(hb1.block _ (by simp)).trans (heap_newP w (.cells #[.string s,.slice x1 c.uses y1,.int .i64 c.data,.slice x2 c.parts.length y2,.slice x3 n3 y3,.iface 199 (.slice av nv cv),.int .i64 c.locals] 206));obtain ⟨c0,c1,c2,c3,c4,c5,c6,cz⟩:=zds q1;clear hb1 q1 c0 c1 c2 c3 c4 c6 HI
     go_wp2_with (go_at_call 330;refine (HU.out.prt _ HB1.out m at_ k HUb.out HA.out hk).mono ?_;rintro e w2 ⟨rfl,hb2⟩;have HB2:=hid (thenB HB1.out hb2);clear hb2)
     go_ret;exact ⟨zaa (by rw [HR.out];rfl),HB2.out⟩
theorem ckK (c:Ck) (s:ByteArray) (x1:OA) (y1:Nat) (x2:OA) (y2:Nat) (x3:OA) (n3 y3:Nat) (av:OA) (nv cv:Nat) (w:World) (hd0:0<=c.data) (hd1:c.data<=512) (hu:c.uses<=17592186044416) (hP:DAt w Tt x2 c.parts.length (zjt c.parts)) (hU:UsAt w c 329 330 (.slice av nv cv)):CkAt w c (.agg #[.string s,.slice x1 c.uses y1,.int .i64 c.data,.slice x2 c.parts.length y2,.slice x3 n3 y3,.iface 199 (.slice av nv cv),.int .i64 c.locals]):=
 ⟨fun W hW m at_ n h1 h2 h3 h4=>zw9 c s x1 y1 x2 y2 x3 n3 y3 av nv cv m at_ n W hd0 hd1 hu (hU.later hW) h1 h2 h3 h4,fun W hW m at_ k h1 h2 h3=>z3d c s x1 y1 x2 y2 x3 n3 y3 av nv cv m at_ k W (hP.later hW) hu (hU.later hW) h1 h2 h3⟩
set_option maxHeartbeats 3200000
theorem zf1 (c:Ck) (s:ByteArray) (x1:OA) (y1:Nat) (x2:OA) (y2:Nat) (x3:OA) (n3 y3:Nat) (iv:Value) (n m at_:Int) (w:World) (hC:CkAt w c (.agg #[.string s,.slice x1 c.uses y1,.int .i64 c.data,.slice x2 c.parts.length y2,.slice x3 n3 y3,iv,.int .i64 c.locals])) (hm:(Lit.int .i64 m).wf=true) (ha:(Lit.int .i64 at_).wf=true) :
 Calls Tryz.prog 211 #[.agg #[.string s,.slice x1 c.uses y1,.int .i64 c.data,.slice x2 c.parts.length y2,.slice x3 n3 y3,iv,.int .i64 c.locals],.int .i64 n,.int .i64 m,.int .i64 at_] w fun e w'=>e = .returned (.bool (zsz c n m at_))/\Below w.heap.size w w':=by
 have HN:=hid (fun h1 h2=>hC.num (w.alloc (.cells #[.string s,.slice x1 c.uses y1,.int .i64 c.data,.slice x2 c.parts.length y2,.slice x3 n3 y3,iv,.int .i64 c.locals] 206)) (al1 _ _) m at_ n hm ha h1 h2);clear hC hm ha
 by_cases h1:1<=n
 . by_cases h2:n<=32
   . have HR:Hid (zsz c n m at_=numB c m at_ n):=by show _=_;unfold zsz;rw [decide_eq_true ⟨h1,h2⟩];rfl
     go_enter Tryz.func211,Tryz.ntmps211;go_wp2_with fail;refine (HN.out h1 h2).mono ?_;rintro e w1 ⟨rfl,hb1⟩;have HB1:=hid (thenB (al1 w _) hb1);clear hb1;go_wp2_with fail;go_ret;exact ⟨zaa HR.out.symm,HB1.out⟩
   . have HR:Hid (zsz c n m at_=false):=by show _=_;unfold zsz;rw [decide_eq_false (by omega)];rfl
     have h2':32<n:=by omega
     clear h2 HN;go_enter Tryz.func211,Tryz.ntmps211;go_wp2_with fail;go_ret;exact ⟨zaa HR.out.symm,al1 _ _⟩
 . have HR:Hid (zsz c n m at_=false):=by show _=_;unfold zsz;rw [decide_eq_false (by omega)];rfl
   have h1':n<1:=by omega
   clear h1 HN;go_enter Tryz.func211,Tryz.ntmps211;go_wp2_with fail;go_ret;exact ⟨zaa HR.out.symm,al1 _ _⟩
theorem zlq (c:Ck) (s:ByteArray) (x1:OA) (y1:Nat) (x2:OA) (y2:Nat) (x3:OA) (n3 y3:Nat) (iv:Value) (x:Nd) (aa:OA) (cp:Nat) (w:World) (hC:CkAt w c (.agg #[.string s,.slice x1 c.uses y1,.int .i64 c.data,.slice x2 c.parts.length y2,.slice x3 n3 y3,iv,.int .i64 c.locals])) (hm:(Lit.int .i64 x.m).wf=true) (ha:(Lit.int .i64 x.at_).wf=true) (hl:x.args.length<=17592186044416) :
 Calls Tryz.prog 213 #[.agg #[.string s,.slice x1 c.uses y1,.int .i64 c.data,.slice x2 c.parts.length y2,.slice x3 n3 y3,iv,.int .i64 c.locals],.agg #[.int .i64 x.op,.int .i64 x.n,.int .i64 x.m,.int .i64 x.at_,.slice aa x.args.length cp]] w fun e w'=>e = .returned (.bool (za5 c x))/\Below w.heap.size w w':=by
 obtain ⟨op,n,m,at_,args⟩:=x;simp only [Nd.op,Nd.n,Nd.m,Nd.at_,Nd.args] at *;have HC:=hid hC;have HM:=hid hm;have HA:=hid ha;clear hC hm ha
 by_cases o3:op=3
 . subst o3
   by_cases t2:args.length=0
   . by_cases t1:n=0
     . have HR:Hid (za5 c (.mk 3 n m at_ args)=numB c m at_ 1):=by show _=_;unfold za5;simp only [Nd.op,Nd.n,Nd.m,Nd.at_,Nd.args];simp [*]
       go_enter Tryz.func213,Tryz.ntmps213;go_wp2_with fail;refine (HC.out.num _ (al2 _ _ _) m at_ 1 HM.out HA.out (by decide) (by decide)).mono ?_;rintro e w1 ⟨rfl,hb1⟩;have HB1:=hid (thenB (al2 w _ _) hb1);clear hb1;go_wp2_with fail;go_ret;exact ⟨zaa HR.out.symm,HB1.out⟩
     . have HR:Hid (za5 c (.mk 3 n m at_ args)=false):=by show _=_;unfold za5;simp only [Nd.op,Nd.n,Nd.m,Nd.at_,Nd.args];simp [*]
       have t':n≠0:=by omega
       clear t1;go_enter Tryz.func213,Tryz.ntmps213;go_wp2_with fail;go_ret;exact ⟨zaa HR.out.symm,al2 _ _ _⟩
   . have HR:Hid (za5 c (.mk 3 n m at_ args)=false):=by show _=_;unfold za5;simp only [Nd.op,Nd.n,Nd.m,Nd.at_,Nd.args];simp [*]
     have t':args.length≠0:=by omega
     clear t2;go_enter Tryz.func213,Tryz.ntmps213;go_wp2_with fail;go_ret;exact ⟨zaa HR.out.symm,al2 _ _ _⟩
 by_cases o4:op=4
 . subst o4
   by_cases t1:args.length=1
   . have HR:Hid (za5 c (.mk 4 n m at_ args)=zsz c n m at_):=by show _=_;unfold za5;simp only [Nd.op,Nd.n,Nd.m,Nd.at_,Nd.args];simp [*]
     go_enter Tryz.func213,Tryz.ntmps213;go_wp2_with fail;refine (zf1 c s x1 y1 x2 y2 x3 n3 y3 iv n m at_ _ (HC.out.later (al2 _ _ _)) HM.out HA.out).mono ?_;rintro e w1 ⟨rfl,hb1⟩;have HB1:=hid (thenB (al2 w _ _) hb1);clear hb1;go_wp2_with fail;go_ret;exact ⟨zaa HR.out.symm,HB1.out⟩
   . have HR:Hid (za5 c (.mk 4 n m at_ args)=false):=by show _=_;unfold za5;simp only [Nd.op,Nd.n,Nd.m,Nd.at_,Nd.args];simp [*]
     have t':args.length≠1:=by omega
     clear t1;go_enter Tryz.func213,Tryz.ntmps213;go_wp2_with fail;go_ret;exact ⟨zaa HR.out.symm,al2 _ _ _⟩
 by_cases o5:op=5
 . subst o5
   by_cases t1:n=0
   . have HR:Hid (za5 c (.mk 5 n m at_ args)=zom c m at_ args.length):=by show _=_;unfold za5;simp only [Nd.op,Nd.n,Nd.m,Nd.at_,Nd.args];simp [*]
     go_enter Tryz.func213,Tryz.ntmps213;go_wp2_with fail;refine (HC.out.prt _ (al2 _ _ _) m at_ args.length HM.out HA.out hl).mono ?_;rintro e w1 ⟨rfl,hb1⟩;have HB1:=hid (thenB (al2 w _ _) hb1);clear hb1;go_wp2_with fail;go_ret;exact ⟨zaa HR.out.symm,HB1.out⟩
   . have HR:Hid (za5 c (.mk 5 n m at_ args)=false):=by show _=_;unfold za5;simp only [Nd.op,Nd.n,Nd.m,Nd.at_,Nd.args];simp [*]
     have t':n≠0:=by omega
     clear t1;go_enter Tryz.func213,Tryz.ntmps213;go_wp2_with fail;go_ret;exact ⟨zaa HR.out.symm,al2 _ _ _⟩
 by_cases o16:op=16
 . subst o16
   by_cases t3:args.length=0
   . by_cases t2:n=0
     . by_cases t1:m=0
       . have HR:Hid (za5 c (.mk 16 n m at_ args)=zwg c at_):=by show _=_;unfold za5;simp only [Nd.op,Nd.n,Nd.m,Nd.at_,Nd.args];simp [*]
         go_enter Tryz.func213,Tryz.ntmps213;go_wp2_with fail;refine (zf3 c s x1 y1 x2 y2 x3 n3 y3 iv at_ _).mono ?_;rintro e w1 ⟨rfl,hb1⟩;have HB1:=hid (thenB (al2 w _ _) hb1);clear hb1;go_wp2_with fail;go_ret;exact ⟨zaa HR.out.symm,HB1.out⟩
       . have HR:Hid (za5 c (.mk 16 n m at_ args)=false):=by show _=_;unfold za5;simp only [Nd.op,Nd.n,Nd.m,Nd.at_,Nd.args];simp [*]
         have t':m≠0:=by omega
         clear t1;go_enter Tryz.func213,Tryz.ntmps213;go_wp2_with fail;go_ret;exact ⟨zaa HR.out.symm,al2 _ _ _⟩
     . have HR:Hid (za5 c (.mk 16 n m at_ args)=false):=by show _=_;unfold za5;simp only [Nd.op,Nd.n,Nd.m,Nd.at_,Nd.args];simp [*]
       have t':n≠0:=by omega
       clear t2;go_enter Tryz.func213,Tryz.ntmps213;go_wp2_with fail;go_ret;exact ⟨zaa HR.out.symm,al2 _ _ _⟩
   . have HR:Hid (za5 c (.mk 16 n m at_ args)=false):=by show _=_;unfold za5;simp only [Nd.op,Nd.n,Nd.m,Nd.at_,Nd.args];simp [*]
     have t':args.length≠0:=by omega
     clear t3;go_enter Tryz.func213,Tryz.ntmps213;go_wp2_with fail;go_ret;exact ⟨zaa HR.out.symm,al2 _ _ _⟩
 by_cases o1:op=1
 . subst o1
   by_cases t5:args.length=0
   . by_cases t4:0<=n
     . by_cases t3:n<=1099511627775
       . by_cases t2:m=0
         . by_cases t1:at_=0
           . have HR:Hid (za5 c (.mk 1 n m at_ args)=true):=by show _=_;unfold za5;simp only [Nd.op,Nd.n,Nd.m,Nd.at_,Nd.args];simp [*]
             go_enter Tryz.func213,Tryz.ntmps213;go_wp2_with fail;go_ret;exact ⟨zaa HR.out.symm,al2 _ _ _⟩
           . have HR:Hid (za5 c (.mk 1 n m at_ args)=false):=by show _=_;unfold za5;simp only [Nd.op,Nd.n,Nd.m,Nd.at_,Nd.args];simp [*]
             have t':at_≠0:=by omega
             clear t1;go_enter Tryz.func213,Tryz.ntmps213;go_wp2_with fail;go_ret;exact ⟨zaa (by first | exact HR.out.symm | (rw [HR.out];first | (simp;omega) | (simp [*];done))),al2 _ _ _⟩
         . have HR:Hid (za5 c (.mk 1 n m at_ args)=false):=by show _=_;unfold za5;simp only [Nd.op,Nd.n,Nd.m,Nd.at_,Nd.args];simp [*]
           have t':m≠0:=by omega
           clear t2;go_enter Tryz.func213,Tryz.ntmps213;go_wp2_with fail;go_ret;exact ⟨zaa HR.out.symm,al2 _ _ _⟩
       . have HR:Hid (za5 c (.mk 1 n m at_ args)=false):=by show _=_;unfold za5;simp only [Nd.op,Nd.n,Nd.m,Nd.at_,Nd.args];simp [*]
         have t':1099511627775<n:=by omega
         clear t3;go_enter Tryz.func213,Tryz.ntmps213;go_wp2_with fail;go_ret;exact ⟨zaa HR.out.symm,al2 _ _ _⟩
     . have HR:Hid (za5 c (.mk 1 n m at_ args)=false):=by show _=_;unfold za5;simp only [Nd.op,Nd.n,Nd.m,Nd.at_,Nd.args];simp [*]
       have t':n<0:=by omega
       clear t4;go_enter Tryz.func213,Tryz.ntmps213;go_wp2_with fail;go_ret;exact ⟨zaa HR.out.symm,al2 _ _ _⟩
   . have HR:Hid (za5 c (.mk 1 n m at_ args)=false):=by show _=_;unfold za5;simp only [Nd.op,Nd.n,Nd.m,Nd.at_,Nd.args];simp [*]
     have t':args.length≠0:=by omega
     clear t5;go_enter Tryz.func213,Tryz.ntmps213;go_wp2_with fail;go_ret;exact ⟨zaa HR.out.symm,al2 _ _ _⟩
 have HQ:Hid (za5 c (.mk op n m at_ args)=(decide ((args.length:Int)=argsOf op)&&(decide (n=0)&&(decide (m=0)&&decide (at_=0))))):=by
  show _=_;unfold za5;exact (if_neg o3).trans ((if_neg o4).trans ((if_neg o5).trans ((if_neg o16).trans (if_neg o1))))
 have HG:=hid (zs0 op);generalize argsOf op=g at *
 by_cases t4:(args.length:Int)=g
 . by_cases t3:n=0
   . by_cases t2:m=0
     . by_cases t1:at_=0
       . have HR:Hid (za5 c (.mk op n m at_ args)=true):=by show _=_;rw [HQ.out];simp [*]
         go_enter Tryz.func213,Tryz.ntmps213;go_wp2_with fail;refine (HG.out _).mono ?_;rintro e w1 ⟨rfl,rfl⟩;go_wp2_with fail;go_ret;exact ⟨zaa HR.out.symm,al2 _ _ _⟩
       . have HR:Hid (za5 c (.mk op n m at_ args)=false):=by show _=_;rw [HQ.out];simp [*]
         have t':at_≠0:=by omega
         clear t1;go_enter Tryz.func213,Tryz.ntmps213;go_wp2_with fail;refine (HG.out _).mono ?_;rintro e w1 ⟨rfl,rfl⟩;go_wp2_with fail;go_ret;exact ⟨zaa (by first | exact HR.out.symm | (rw [HR.out];first | (simp;omega) | (simp [*];done))),al2 _ _ _⟩
     . have HR:Hid (za5 c (.mk op n m at_ args)=false):=by show _=_;rw [HQ.out];simp [*]
       have t':m≠0:=by omega
       clear t2;go_enter Tryz.func213,Tryz.ntmps213;go_wp2_with fail;refine (HG.out _).mono ?_;rintro e w1 ⟨rfl,rfl⟩;go_wp2_with fail;go_ret;exact ⟨zaa HR.out.symm,al2 _ _ _⟩
   . have HR:Hid (za5 c (.mk op n m at_ args)=false):=by show _=_;rw [HQ.out];simp [*]
     have t':n≠0:=by omega
     clear t3;go_enter Tryz.func213,Tryz.ntmps213;go_wp2_with fail;refine (HG.out _).mono ?_;rintro e w1 ⟨rfl,rfl⟩;go_wp2_with fail;go_ret;exact ⟨zaa HR.out.symm,al2 _ _ _⟩
 . have HR:Hid (za5 c (.mk op n m at_ args)=false):=by show _=_;rw [HQ.out];simp [*]
   have t':(args.length:Int)≠g:=by omega
   clear t4;go_enter Tryz.func213,Tryz.ntmps213;go_wp2_with fail;refine (HG.out _).mono ?_;rintro e w1 ⟨rfl,rfl⟩;go_wp2_with fail;go_ret;exact ⟨zaa HR.out.symm,al2 _ _ _⟩
theorem znb (c:Ck) (s:ByteArray) (x1:OA) (y1:Nat) (x2:OA) (y2:Nat) (x3:OA) (n3 y3:Nat) (iv:Value) (x:Ac) (aa:OA) (cp:Nat) (ab:OA) (cb:Nat) (ao:OA) (co:Nat) (w:World) (hC:CkAt w c (.agg #[.string s,.slice x1 c.uses y1,.int .i64 c.data,.slice x2 c.parts.length y2,.slice x3 n3 y3,iv,.int .i64 c.locals])) (hm:(Lit.int .i64 x.m).wf=true) (ha:(Lit.int .i64 x.at_).wf=true) (hl:x.args.length<=17592186044416) :
 Calls Tryz.prog 169 #[.agg #[.string s,.slice x1 c.uses y1,.int .i64 c.data,.slice x2 c.parts.length y2,.slice x3 n3 y3,iv,.int .i64 c.locals],.agg #[.int .i64 x.op,.int .i64 x.n,.int .i64 x.m,.int .i64 x.at_,.slice aa x.args.length cp,.slice ab x.body.length cb,.slice ao x.other.length co]] w fun e w'=>e = .returned (.bool (zb2 c x))/\Below w.heap.size w w':=by
 obtain ⟨op,n,m,at_,args,body,other⟩:=x;simp only [Ac.op,Ac.n,Ac.m,Ac.at_,Ac.args,Ac.body,Ac.other] at *;have HC:=hid hC;have HM:=hid hm;have HA:=hid ha;clear hC hm ha
 by_cases o1:op=1
 . subst o1
   by_cases om:m = -1
   . subst om
     by_cases t2:args.length=1
     . by_cases t1:n=0
       . have HR:Hid (zb2 c (.mk 1 n (-1) at_ args body other)=zwg c at_):=by show _=_;unfold zb2;simp only [Ac.op,Ac.n,Ac.m,Ac.at_,Ac.args];simp [*]
         go_enter Tryz.func169,Tryz.ntmps169;go_wp2_with fail;refine (zf3 c s x1 y1 x2 y2 x3 n3 y3 iv at_ _).mono ?_;rintro e w1 ⟨rfl,hb1⟩;have HB1:=hid (thenB (al2 w _ _) hb1);clear hb1;go_wp2_with fail;go_ret;exact ⟨zaa HR.out.symm,HB1.out⟩
       . have HR:Hid (zb2 c (.mk 1 n (-1) at_ args body other)=false):=by show _=_;unfold zb2;simp only [Ac.op,Ac.n,Ac.m,Ac.at_,Ac.args];simp [*]
         have t':n≠0:=by omega
         clear t1;go_enter Tryz.func169,Tryz.ntmps169;go_wp2_with fail;go_ret;exact ⟨zaa HR.out.symm,al2 _ _ _⟩
     . have HR:Hid (zb2 c (.mk 1 n (-1) at_ args body other)=false):=by show _=_;unfold zb2;simp only [Ac.op,Ac.n,Ac.m,Ac.at_,Ac.args];simp [*]
       have t':args.length≠1:=by omega
       clear t2;go_enter Tryz.func169,Tryz.ntmps169;go_wp2_with fail;go_ret;exact ⟨zaa HR.out.symm,al2 _ _ _⟩
   . by_cases t2:args.length=1
     . by_cases t1:n=0
       . have HR:Hid (zb2 c (.mk 1 n m at_ args body other)=numB c m at_ 1):=by show _=_;unfold zb2;simp only [Ac.op,Ac.n,Ac.m,Ac.at_,Ac.args];simp [*]
         go_enter Tryz.func169,Tryz.ntmps169;go_wp2_with fail;refine (HC.out.num _ (al2 _ _ _) m at_ 1 HM.out HA.out (by decide) (by decide)).mono ?_;rintro e w1 ⟨rfl,hb1⟩;have HB1:=hid (thenB (al2 w _ _) hb1);clear hb1;go_wp2_with fail;go_ret;exact ⟨zaa HR.out.symm,HB1.out⟩
       . have HR:Hid (zb2 c (.mk 1 n m at_ args body other)=false):=by show _=_;unfold zb2;simp only [Ac.op,Ac.n,Ac.m,Ac.at_,Ac.args];simp [*]
         have t':n≠0:=by omega
         clear t1;go_enter Tryz.func169,Tryz.ntmps169;go_wp2_with fail;go_ret;exact ⟨zaa HR.out.symm,al2 _ _ _⟩
     . have HR:Hid (zb2 c (.mk 1 n m at_ args body other)=false):=by show _=_;unfold zb2;simp only [Ac.op,Ac.n,Ac.m,Ac.at_,Ac.args];simp [*]
       have t':args.length≠1:=by omega
       clear t2;go_enter Tryz.func169,Tryz.ntmps169;go_wp2_with fail;go_ret;exact ⟨zaa HR.out.symm,al2 _ _ _⟩
 by_cases o2:op=2
 . subst o2
   by_cases t1:args.length=2
   . have HR:Hid (zb2 c (.mk 2 n m at_ args body other)=zsz c n m at_):=by show _=_;unfold zb2;simp only [Ac.op,Ac.n,Ac.m,Ac.at_,Ac.args];simp [*]
     go_enter Tryz.func169,Tryz.ntmps169;go_wp2_with fail;refine (zf1 c s x1 y1 x2 y2 x3 n3 y3 iv n m at_ _ (HC.out.later (al2 _ _ _)) HM.out HA.out).mono ?_;rintro e w1 ⟨rfl,hb1⟩;have HB1:=hid (thenB (al2 w _ _) hb1);clear hb1;go_wp2_with fail;go_ret;exact ⟨zaa HR.out.symm,HB1.out⟩
   . have HR:Hid (zb2 c (.mk 2 n m at_ args body other)=false):=by show _=_;unfold zb2;simp only [Ac.op,Ac.n,Ac.m,Ac.at_,Ac.args];simp [*]
     have t':args.length≠2:=by omega
     clear t1;go_enter Tryz.func169,Tryz.ntmps169;go_wp2_with fail;go_ret;exact ⟨zaa HR.out.symm,al2 _ _ _⟩
 by_cases o3:op=3
 . subst o3
   by_cases t1:n=0
   . have HR:Hid (zb2 c (.mk 3 n m at_ args body other)=zom c m at_ args.length):=by show _=_;unfold zb2;simp only [Ac.op,Ac.n,Ac.m,Ac.at_,Ac.args];simp [*]
     go_enter Tryz.func169,Tryz.ntmps169;go_wp2_with fail;refine (HC.out.prt _ (al2 _ _ _) m at_ args.length HM.out HA.out hl).mono ?_;rintro e w1 ⟨rfl,hb1⟩;have HB1:=hid (thenB (al2 w _ _) hb1);clear hb1;go_wp2_with fail;go_ret;exact ⟨zaa HR.out.symm,HB1.out⟩
   . have HR:Hid (zb2 c (.mk 3 n m at_ args body other)=false):=by show _=_;unfold zb2;simp only [Ac.op,Ac.n,Ac.m,Ac.at_,Ac.args];simp [*]
     have t':n≠0:=by omega
     clear t1;go_enter Tryz.func169,Tryz.ntmps169;go_wp2_with fail;go_ret;exact ⟨zaa HR.out.symm,al2 _ _ _⟩
 by_cases o4:op=4
 . subst o4
   by_cases t4:args.length=1
   . by_cases t3:n=0
     . by_cases t2:m=0
       . by_cases t1:at_=0
         . have HR:Hid (zb2 c (.mk 4 n m at_ args body other)=true):=by show _=_;unfold zb2;simp only [Ac.op,Ac.n,Ac.m,Ac.at_,Ac.args];simp [*]
           go_enter Tryz.func169,Tryz.ntmps169;go_wp2_with fail;go_ret;exact ⟨zaa HR.out.symm,al2 _ _ _⟩
         . have HR:Hid (zb2 c (.mk 4 n m at_ args body other)=false):=by show _=_;unfold zb2;simp only [Ac.op,Ac.n,Ac.m,Ac.at_,Ac.args];simp [*]
           have t':at_≠0:=by omega
           clear t1;go_enter Tryz.func169,Tryz.ntmps169;go_wp2_with fail;go_ret;exact ⟨zaa (by first | exact HR.out.symm | (rw [HR.out];first | (simp;omega) | (simp [*];done))),al2 _ _ _⟩
       . have HR:Hid (zb2 c (.mk 4 n m at_ args body other)=false):=by show _=_;unfold zb2;simp only [Ac.op,Ac.n,Ac.m,Ac.at_,Ac.args];simp [*]
         have t':m≠0:=by omega
         clear t2;go_enter Tryz.func169,Tryz.ntmps169;go_wp2_with fail;go_ret;exact ⟨zaa HR.out.symm,al2 _ _ _⟩
     . have HR:Hid (zb2 c (.mk 4 n m at_ args body other)=false):=by show _=_;unfold zb2;simp only [Ac.op,Ac.n,Ac.m,Ac.at_,Ac.args];simp [*]
       have t':n≠0:=by omega
       clear t3;go_enter Tryz.func169,Tryz.ntmps169;go_wp2_with fail;go_ret;exact ⟨zaa HR.out.symm,al2 _ _ _⟩
   . have HR:Hid (zb2 c (.mk 4 n m at_ args body other)=false):=by show _=_;unfold zb2;simp only [Ac.op,Ac.n,Ac.m,Ac.at_,Ac.args];simp [*]
     have t':args.length≠1:=by omega
     clear t4;go_enter Tryz.func169,Tryz.ntmps169;go_wp2_with fail;go_ret;exact ⟨zaa HR.out.symm,al2 _ _ _⟩
 by_cases o5:op=5
 . subst o5
   by_cases t4:args.length=1
   . by_cases t3:n=0
     . by_cases t2:m=0
       . by_cases t1:at_=0
         . have HR:Hid (zb2 c (.mk 5 n m at_ args body other)=true):=by show _=_;unfold zb2;simp only [Ac.op,Ac.n,Ac.m,Ac.at_,Ac.args];simp [*]
           go_enter Tryz.func169,Tryz.ntmps169;go_wp2_with fail;go_ret;exact ⟨zaa HR.out.symm,al2 _ _ _⟩
         . have HR:Hid (zb2 c (.mk 5 n m at_ args body other)=false):=by show _=_;unfold zb2;simp only [Ac.op,Ac.n,Ac.m,Ac.at_,Ac.args];simp [*]
           have t':at_≠0:=by omega
           clear t1;go_enter Tryz.func169,Tryz.ntmps169;go_wp2_with fail;go_ret;exact ⟨zaa (by first | exact HR.out.symm | (rw [HR.out];first | (simp;omega) | (simp [*];done))),al2 _ _ _⟩
       . have HR:Hid (zb2 c (.mk 5 n m at_ args body other)=false):=by show _=_;unfold zb2;simp only [Ac.op,Ac.n,Ac.m,Ac.at_,Ac.args];simp [*]
         have t':m≠0:=by omega
         clear t2;go_enter Tryz.func169,Tryz.ntmps169;go_wp2_with fail;go_ret;exact ⟨zaa HR.out.symm,al2 _ _ _⟩
     . have HR:Hid (zb2 c (.mk 5 n m at_ args body other)=false):=by show _=_;unfold zb2;simp only [Ac.op,Ac.n,Ac.m,Ac.at_,Ac.args];simp [*]
       have t':n≠0:=by omega
       clear t3;go_enter Tryz.func169,Tryz.ntmps169;go_wp2_with fail;go_ret;exact ⟨zaa HR.out.symm,al2 _ _ _⟩
   . have HR:Hid (zb2 c (.mk 5 n m at_ args body other)=false):=by show _=_;unfold zb2;simp only [Ac.op,Ac.n,Ac.m,Ac.at_,Ac.args];simp [*]
     have t':args.length≠1:=by omega
     clear t4;go_enter Tryz.func169,Tryz.ntmps169;go_wp2_with fail;go_ret;exact ⟨zaa HR.out.symm,al2 _ _ _⟩
 by_cases o6:op=6
 . subst o6
   by_cases t4:args.length=1
   . by_cases t3:n=0
     . by_cases t2:m=0
       . by_cases t1:at_=0
         . have HR:Hid (zb2 c (.mk 6 n m at_ args body other)=true):=by show _=_;unfold zb2;simp only [Ac.op,Ac.n,Ac.m,Ac.at_,Ac.args];simp [*]
           go_enter Tryz.func169,Tryz.ntmps169;go_wp2_with fail;go_ret;exact ⟨zaa HR.out.symm,al2 _ _ _⟩
         . have HR:Hid (zb2 c (.mk 6 n m at_ args body other)=false):=by show _=_;unfold zb2;simp only [Ac.op,Ac.n,Ac.m,Ac.at_,Ac.args];simp [*]
           have t':at_≠0:=by omega
           clear t1;go_enter Tryz.func169,Tryz.ntmps169;go_wp2_with fail;go_ret;exact ⟨zaa (by first | exact HR.out.symm | (rw [HR.out];first | (simp;omega) | (simp [*];done))),al2 _ _ _⟩
       . have HR:Hid (zb2 c (.mk 6 n m at_ args body other)=false):=by show _=_;unfold zb2;simp only [Ac.op,Ac.n,Ac.m,Ac.at_,Ac.args];simp [*]
         have t':m≠0:=by omega
         clear t2;go_enter Tryz.func169,Tryz.ntmps169;go_wp2_with fail;go_ret;exact ⟨zaa HR.out.symm,al2 _ _ _⟩
     . have HR:Hid (zb2 c (.mk 6 n m at_ args body other)=false):=by show _=_;unfold zb2;simp only [Ac.op,Ac.n,Ac.m,Ac.at_,Ac.args];simp [*]
       have t':n≠0:=by omega
       clear t3;go_enter Tryz.func169,Tryz.ntmps169;go_wp2_with fail;go_ret;exact ⟨zaa HR.out.symm,al2 _ _ _⟩
   . have HR:Hid (zb2 c (.mk 6 n m at_ args body other)=false):=by show _=_;unfold zb2;simp only [Ac.op,Ac.n,Ac.m,Ac.at_,Ac.args];simp [*]
     have t':args.length≠1:=by omega
     clear t4;go_enter Tryz.func169,Tryz.ntmps169;go_wp2_with fail;go_ret;exact ⟨zaa HR.out.symm,al2 _ _ _⟩
 by_cases o7:op=7
 . subst o7
   by_cases t4:args.length=1
   . by_cases t3:n=0
     . by_cases t2:m=0
       . by_cases t1:at_=0
         . have HR:Hid (zb2 c (.mk 7 n m at_ args body other)=true):=by show _=_;unfold zb2;simp only [Ac.op,Ac.n,Ac.m,Ac.at_,Ac.args];simp [*]
           go_enter Tryz.func169,Tryz.ntmps169;go_wp2_with fail;go_ret;exact ⟨zaa HR.out.symm,al2 _ _ _⟩
         . have HR:Hid (zb2 c (.mk 7 n m at_ args body other)=false):=by show _=_;unfold zb2;simp only [Ac.op,Ac.n,Ac.m,Ac.at_,Ac.args];simp [*]
           have t':at_≠0:=by omega
           clear t1;go_enter Tryz.func169,Tryz.ntmps169;go_wp2_with fail;go_ret;exact ⟨zaa (by first | exact HR.out.symm | (rw [HR.out];first | (simp;omega) | (simp [*];done))),al2 _ _ _⟩
       . have HR:Hid (zb2 c (.mk 7 n m at_ args body other)=false):=by show _=_;unfold zb2;simp only [Ac.op,Ac.n,Ac.m,Ac.at_,Ac.args];simp [*]
         have t':m≠0:=by omega
         clear t2;go_enter Tryz.func169,Tryz.ntmps169;go_wp2_with fail;go_ret;exact ⟨zaa HR.out.symm,al2 _ _ _⟩
     . have HR:Hid (zb2 c (.mk 7 n m at_ args body other)=false):=by show _=_;unfold zb2;simp only [Ac.op,Ac.n,Ac.m,Ac.at_,Ac.args];simp [*]
       have t':n≠0:=by omega
       clear t3;go_enter Tryz.func169,Tryz.ntmps169;go_wp2_with fail;go_ret;exact ⟨zaa HR.out.symm,al2 _ _ _⟩
   . have HR:Hid (zb2 c (.mk 7 n m at_ args body other)=false):=by show _=_;unfold zb2;simp only [Ac.op,Ac.n,Ac.m,Ac.at_,Ac.args];simp [*]
     have t':args.length≠1:=by omega
     clear t4;go_enter Tryz.func169,Tryz.ntmps169;go_wp2_with fail;go_ret;exact ⟨zaa HR.out.symm,al2 _ _ _⟩
 have HR:Hid (zb2 c (.mk op n m at_ args body other)=false):=by
  show _=_;unfold zb2;exact (if_neg o1).trans ((if_neg o2).trans ((if_neg o3).trans (if_neg (by show ¬ (4<=op/\op<=7);omega))))
 go_enter Tryz.func169,Tryz.ntmps169;go_wp2_with fail;go_ret;exact ⟨zaa HR.out.symm,al2 _ _ _⟩
set_option maxHeartbeats 1600000
theorem zgm (c:Ck) (s:ByteArray) (x1:OA) (y1:Nat) (x2:OA) (y2:Nat) (x3:OA) (n3 y3:Nat) (iv:Value) (a:OA) (cap:Nat) (deep:Int) (w:World) :
 Calls Tryz.prog 170 #[.agg #[.string s,.slice x1 c.uses y1,.int .i64 c.data,.slice x2 c.parts.length y2,.slice x3 n3 y3,iv,.int .i64 c.locals],.slice a 0 cap,.int .i64 deep] w fun e w'=>e = .returned (.bool true)/\Below w.heap.size w w':=by
 go_enter Tryz.func170,Tryz.ntmps170;go_wp2_with fail
 go_loopw [18] (fun i wr=>i = .int .i64 0/\Below w.heap.size w wr) (fun _ _=>0)
 case atStart=>exact ⟨rfl,al1 _ _⟩
 case round=>
  obtain ⟨rfl,hb⟩:=hrel;have HB:=hid hb;clear hb;go_wp2_with fail;go_ret;exact ⟨rfl,HB.out⟩
theorem zj0 (c:Ck) (s:ByteArray) (x1:OA) (y1:Nat) (x2:OA) (y2:Nat) (x3:OA) (n3 y3:Nat) (iv:Value) (a:OA) (n cap:Nat) (w:World) (hn:0<n) :
 Calls Tryz.prog 170 #[.agg #[.string s,.slice x1 c.uses y1,.int .i64 c.data,.slice x2 c.parts.length y2,.slice x3 n3 y3,iv,.int .i64 c.locals],.slice a n cap,.int .i64 7] w fun e w'=>e = .returned (.bool false)/\Below w.heap.size w w':=by
 go_enter Tryz.func170,Tryz.ntmps170;go_wp2_with fail;go_ret;exact ⟨rfl,al1 _ _⟩
theorem zxa (c:Ck) (k:Nat):zj9 c k []=true:=by cases k<;>simp [zj9]
theorem zgn (c:Ck) (s:ByteArray) (x1:OA) (y1:Nat) (x2:OA) (y2:Nat) (x3:OA) (n3 y3:Nat) (iv:Value):∀ (k:Nat),k<=6->∀ (l:List Nd) (A:Nat->Prop) (a:OA) (cap:Nat) (deep:Int) (w:World),deep=7 - (k:Int)->DAt w A a l.length (zcl l)->CkAt w c (.agg #[.string s,.slice x1 c.uses y1,.int .i64 c.data,.slice x2 c.parts.length y2,.slice x3 n3 y3,iv,.int .i64 c.locals])->
 Calls Tryz.prog 170 #[.agg #[.string s,.slice x1 c.uses y1,.int .i64 c.data,.slice x2 c.parts.length y2,.slice x3 n3 y3,iv,.int .i64 c.locals],.slice a l.length cap,.int .i64 deep] w fun e w'=>e = .returned (.bool (zj9 c k l))/\Below w.heap.size w w'
 | 0,_,l,A,a,cap,deep,w,hd,_,_=>by
   obtain rfl:deep=7:=by omega
   rcases vcn l.length with h0 | h0
   . obtain rfl:=vam h0
     exact zgm c s x1 y1 x2 y2 x3 n3 y3 iv a cap 7 w
   . have:zj9 c 0 l=false:=by simp only [zj9];exact decide_eq_false (by omega)
     rw [this];exact zj0 c s x1 y1 x2 y2 x3 n3 y3 iv a l.length cap w h0
 | k + 1, hk,l,A,a,cap,deep,w,hd,hD,hC=>by
   have HI:=hid (fun (l:List Nd) (A:Nat->Prop) (a:OA) (cap:Nat) (w:World)=>zgn c s x1 y1 x2 y2 x3 n3 y3 iv k (by omega) l A a cap (deep+1) w (by omega))
   rcases vcn l.length with h0 | h0
   . obtain rfl:=vam h0
     rw [zxa];exact zgm c s x1 y1 x2 y2 x3 n3 y3 iv a cap deep w
   have HR:Hid (zj9 c (k+1) l=l.all (fun x=>za5 c x&&zj9 c k x.args)):=by show _=_;simp [zj9]
   have hbd:=hD.bound
   have hd1:1<=deep:=by omega
   have hd6:deep<=6:=by omega
   have HD:=hid hD;have HC:=hid hC;clear hD hC hd;go_enter Tryz.func170,Tryz.ntmps170;go_wp2_with fail
   go_loopw [18] (fun i wr=>∃ j:Nat,j<=l.length/\i = .int .i64 j/\(l.take j).all (fun x=>za5 c x&&zj9 c k x.args)=true/\Below w.heap.size w wr/\wr.heap[w.heap.size]? = some (.cells #[.string s,.slice x1 c.uses y1,.int .i64 c.data,.slice x2 c.parts.length y2,.slice x3 n3 y3,iv,.int .i64 c.locals] 206)) (fun i _=>l.length - (intOf i).toNat)
   case atStart=>exact ⟨0,vad _,rfl,rfl,al1 _ _,heap_newP _ _⟩
   case round=>
    obtain ⟨j,hj,rfl,hall,hb,hB⟩:=hrel;obtain ⟨q0,q1,q2,q3,q4,q5,q6,qz⟩:=zds hB;have HB:=hid hb;have HX:=hid hB;have HL:=hid hall;clear hall hB hb
    by_cases hlt:j<l.length
    . obtain ⟨b,off,aa,cp,rfl,hx⟩:=(HD.out.later HB.out).nd j hlt
      have HF:=hid (fun (h:(za5 c l[j]&&zj9 c k l[j].args)=false)=>all_not l (fun x=>za5 c x&&zj9 c k x.args) j hlt h);have HT:=hid (fun (h:(za5 c l[j]&&zj9 c k l[j].args)=true)=>(by rw [all_snoc l _ j hlt,HL.out,h];rfl:(l.take (j+1)).all (fun x=>za5 c x&&zj9 c k x.args)=true));obtain ⟨hbl,x0,x1',x2',x3',x4,hargs,_,_,hm,hat⟩:=hx;have HA:=hid hargs;have hal:=hargs.bound;have HM:=hid hm;have HAt:=hid hat;clear hargs hm hat;generalize l[j]=x at *;go_wp2_with fail;refine (zlq c s x1 y1 x2 y2 x3 n3 y3 iv x aa cp _ (HC.out.later (thenB HB.out (al1 _ _))) HM.out HAt.out hal).mono ?_
      cases h1:za5 c x with
      | false=>
        rintro e w3 ⟨rfl,hb3⟩;have HB3:=hid (thenB HB.out (thenB (al1 _ _) hb3));have HF':=hid (HF.out (by rw [h1];rfl));clear hb3;go_wp2_with fail;go_ret;exact ⟨zaa (by rw [HR.out,HF'.out]),HB3.out⟩
      | true=>
        rintro e w3 ⟨rfl,hb3⟩;have HB3:=hid (thenB (al1 wr _) hb3);have p1:=(HB3.out.block _ (zab HX.out)).trans HX.out;have p2:=(hb3.block _ (by simp)).trans (heap_newP wr (.cells #[.int .i64 x.op,.int .i64 x.n,.int .i64 x.m,.int .i64 x.at_,.slice aa x.args.length cp] 253));have HX3:=hid p1;clear q0 q1 q2 q3 q4 q5 q6 qz x0 x1' x2' x3' x4 hbl;obtain ⟨q0,q1,q2,q3,q4,q5,q6,qz⟩:=zds p1;obtain ⟨z0,z1,z2,z3,z4,_⟩:=zad p2;have zz:=zab p2;clear hb3 p1 p2;go_wp2_with fail;refine (HI.out x.args A aa cp _ (HA.out.later HB3.out) (HC.out.later (thenB HB.out HB3.out))).mono ?_
        cases h2:zj9 c k x.args with
        | false=>
          rintro e w4 ⟨rfl,hb4⟩;have HB4:=hid (thenB (thenB HB.out HB3.out) hb4);have HF':=hid (HF.out (by rw [h1,h2];rfl));clear hb4;go_wp2_with fail;go_ret;exact ⟨zaa (by rw [HR.out,HF'.out]),HB4.out⟩
        | true=>
          rintro e w4 ⟨rfl,hb4⟩;have HB4:=hid (thenB (thenB HB.out HB3.out) hb4);have HX4:=hid ((hb4.block _ (zab HX3.out)).trans HX3.out);have HT':=hid (HT.out (by rw [h1,h2];rfl));clear hb4;go_wp2_with fail;go_roundw
          case rel=>exact ⟨j+1,by omega,by go_num,HT'.out,HB4.out,HX4.out⟩
          case measure=>simp [intOf];omega
    . have HT:Hid (l.all (fun x=>za5 c x&&zj9 c k x.args)=true):=zb1 HL.out hlt
      go_wp2_with fail;go_ret;exact ⟨zaa (by rw [HR.out,HT.out]),HB.out⟩
set_option maxHeartbeats 3200000
def zwe (c:Ck) (k:Nat) (a:Ac):Bool:=if a.op=4 then zgh c k a.body&&zgh c k a.other else if a.op=5 then zgh c k a.body&&decide (a.other.length=0) else decide (a.body.length=0)&&decide (a.other.length=0)
def zlr (c:Ck) (cv:Value) (k:Nat):Prop:=∀ (l:List Ac) (A:Nat->Prop) (a:OA) (cap:Nat) (deep:Int) (w:World),deep=7 - (k:Int)->DAt w A a l.length (zcg l)->CkAt w c cv->
    Calls Tryz.prog 128 #[cv,.slice a l.length cap,.int .i64 deep] w fun e w'=>e = .returned (.bool (zgh c k l))/\Below w.heap.size w w'
theorem zj1 (c:Ck) (s:ByteArray) (x1:OA) (y1:Nat) (x2:OA) (y2:Nat) (x3:OA) (n3 y3:Nat) (iv:Value) (k:Nat) (hk:k<=6) (ih:zlr c (.agg #[.string s,.slice x1 c.uses y1,.int .i64 c.data,.slice x2 c.parts.length y2,.slice x3 n3 y3,iv,.int .i64 c.locals]) k) (x:Ac) (A:Nat->Prop) (aa:OA) (cp:Nat) (ab:OA) (cb:Nat) (ao:OA) (co:Nat) (deep:Int) (w:World) (hd:deep=7 - (k:Int)) (hB:DAt w A ab x.body.length (zcg x.body)) (hO:DAt w A ao x.other.length (zcg x.other)) (hC:CkAt w c (.agg #[.string s,.slice x1 c.uses y1,.int .i64 c.data,.slice x2 c.parts.length y2,.slice x3 n3 y3,iv,.int .i64 c.locals])) :
 Calls Tryz.prog 171 #[.agg #[.string s,.slice x1 c.uses y1,.int .i64 c.data,.slice x2 c.parts.length y2,.slice x3 n3 y3,iv,.int .i64 c.locals],.agg #[.int .i64 x.op,.int .i64 x.n,.int .i64 x.m,.int .i64 x.at_,.slice aa x.args.length cp,.slice ab x.body.length cb,.slice ao x.other.length co],.int .i64 deep] w fun e w'=>e = .returned (.bool (zwe c k x))/\Below w.heap.size w w':=by
 have HI:=hid (fun l A a cap w=>ih l A a cap deep w hd);have hbb:=hB.bound;have hob:=hO.bound;have HB:=hid hB;have HO:=hid hO;have HC:=hid hC;clear ih hB hO hC hd
 by_cases o4:x.op=4
 . have HR:Hid (zwe c k x=(zgh c k x.body&&zgh c k x.other)):=if_pos o4
   go_enter Tryz.func171,Tryz.ntmps171;go_wp2_with fail;refine (HI.out x.body A ab cb _ (HB.out.later (al2 _ _ _)) (HC.out.later (al2 _ _ _))).mono ?_
   cases h1:zgh c k x.body with
   | false=>
     rintro e w3 ⟨rfl,hb3⟩;have HB3:=hid (thenB (al2 w _ _) hb3);clear hb3;go_wp2_with fail;go_ret;exact ⟨zaa (by rw [HR.out,h1];rfl),HB3.out⟩
   | true=>
     rintro e w3 ⟨rfl,hb3⟩;have HB3:=hid (thenB (al2 w _ _) hb3);have p1:=(hb3.block w.heap.size (by simp;omega)).trans (zae (heap_newP w (.cells #[.string s,.slice x1 c.uses y1,.int .i64 c.data,.slice x2 c.parts.length y2,.slice x3 n3 y3,iv,.int .i64 c.locals] 206)));have p2:=(hb3.block (w.heap.size+1) (by simp)).trans (z1n w _ _);obtain ⟨q0,q1,q2,q3,q4,q5,q6,qz⟩:=zds p1;obtain ⟨z0,z1,z2,z3,z4,z5,z6,zz⟩:=zds p2;clear hb3 p1 p2;go_wp2_with fail;refine (HI.out x.other A ao co _ (HO.out.later HB3.out) (HC.out.later HB3.out)).mono ?_;rintro e w4 ⟨rfl,hb4⟩;have HB4:=hid (thenB HB3.out hb4);clear hb4;go_wp2_with fail;go_ret;exact ⟨zaa (by rw [HR.out,h1];rfl),HB4.out⟩
 by_cases o5:x.op=5
 . have HR:Hid (zwe c k x=(zgh c k x.body&&decide (x.other.length=0))):=(if_neg o4).trans (if_pos o5)
   go_enter Tryz.func171,Tryz.ntmps171;go_wp2_with fail;refine (HI.out x.body A ab cb _ (HB.out.later (al2 _ _ _)) (HC.out.later (al2 _ _ _))).mono ?_
   cases h1:zgh c k x.body with
   | false=>
     rintro e w3 ⟨rfl,hb3⟩;have HB3:=hid (thenB (al2 w _ _) hb3);clear hb3;go_wp2_with fail;go_ret;exact ⟨zaa (by rw [HR.out,h1];rfl),HB3.out⟩
   | true=>
     rintro e w3 ⟨rfl,hb3⟩;have HB3:=hid (thenB (al2 w _ _) hb3);have p2:=(hb3.block (w.heap.size+1) (by simp)).trans (z1n w _ _);obtain ⟨z0,z1,z2,z3,z4,z5,z6,zz⟩:=zds p2;clear hb3 p2
     by_cases h0:x.other.length=0
     . go_wp2_with fail
       go_ret;exact ⟨zaa (by rw [HR.out,h1,decide_eq_true h0];rfl),HB3.out⟩
     . have h0':x.other.length≠0:=h0
       have HR':Hid (zwe c k x=false):=by show _=_;rw [HR.out,h1,decide_eq_false h0];rfl
       clear h0;go_wp2_with fail;go_ret;exact ⟨zaa (by first | exact HR'.out.symm | (rw [HR'.out];first | (simp;omega) | (simp [*];done))),HB3.out⟩
 . have HR:Hid (zwe c k x=(decide (x.body.length=0)&&decide (x.other.length=0))):=(if_neg o4).trans (if_neg o5)
   by_cases hb0:x.body.length=0
   . by_cases h0:x.other.length=0
     . have HR':Hid (zwe c k x=true):=by show _=_;rw [HR.out,decide_eq_true h0,decide_eq_true hb0];rfl
       go_enter Tryz.func171,Tryz.ntmps171;go_wp2_with fail;go_ret;exact ⟨zaa HR'.out.symm,al2 _ _ _⟩
     . have h0':x.other.length≠0:=h0
       have HR':Hid (zwe c k x=false):=by show _=_;rw [HR.out,decide_eq_false h0,decide_eq_true hb0];rfl
       clear h0;go_enter Tryz.func171,Tryz.ntmps171;go_wp2_with fail;go_ret;exact ⟨zaa (by first | exact HR'.out.symm | (rw [HR'.out];first | (simp;omega) | (simp [*];done))),al2 _ _ _⟩
   . have h0':x.body.length≠0:=hb0
     have HR':Hid (zwe c k x=false):=by show _=_;rw [HR.out,decide_eq_false hb0];rfl
     clear hb0;go_enter Tryz.func171,Tryz.ntmps171;go_wp2_with fail;go_ret;exact ⟨zaa HR'.out.symm,al2 _ _ _⟩
theorem ziq (c:Ck) (s:ByteArray) (x1:OA) (y1:Nat) (x2:OA) (y2:Nat) (x3:OA) (n3 y3:Nat) (iv:Value) (a:OA) (n cap:Nat) (w:World) :
 Calls Tryz.prog 128 #[.agg #[.string s,.slice x1 c.uses y1,.int .i64 c.data,.slice x2 c.parts.length y2,.slice x3 n3 y3,iv,.int .i64 c.locals],.slice a n cap,.int .i64 7] w fun e w'=>e = .returned (.bool false)/\Below w.heap.size w w':=by
 go_enter Tryz.func128,Tryz.ntmps128;go_wp2_with fail;go_ret;exact ⟨rfl,al1 _ _⟩
theorem zir (c:Ck) (s:ByteArray) (x1:OA) (y1:Nat) (x2:OA) (y2:Nat) (x3:OA) (n3 y3:Nat) (iv:Value) (a:OA) (n cap:Nat) (deep:Int) (w:World) (hd:deep<=6) (hn:10<n) (hn2:n<=17592186044416) :
 Calls Tryz.prog 128 #[.agg #[.string s,.slice x1 c.uses y1,.int .i64 c.data,.slice x2 c.parts.length y2,.slice x3 n3 y3,iv,.int .i64 c.locals],.slice a n cap,.int .i64 deep] w fun e w'=>e = .returned (.bool false)/\Below w.heap.size w w':=by
 go_enter Tryz.func128,Tryz.ntmps128;go_wp2_with fail;go_ret;exact ⟨rfl,al1 _ _⟩
def ztc (c:Ck) (k:Nat) (x:Ac):Bool:=zb2 c x&&(zj9 c 6 x.args&&zwe c k x)
theorem znc (c:Ck) (k:Nat) (l:List Ac):zgh c (k+1) l=(decide (l.length<=10)&&l.all (ztc c k)):=by
 rw [zgh]
 rfl
theorem zr2 (c:Ck) (s:ByteArray) (x1:OA) (y1:Nat) (x2:OA) (y2:Nat) (x3:OA) (n3 y3:Nat) (iv:Value) (k:Nat) (hk:k+1<=6) (ih:zlr c (.agg #[.string s,.slice x1 c.uses y1,.int .i64 c.data,.slice x2 c.parts.length y2,.slice x3 n3 y3,iv,.int .i64 c.locals]) k):zlr c (.agg #[.string s,.slice x1 c.uses y1,.int .i64 c.data,.slice x2 c.parts.length y2,.slice x3 n3 y3,iv,.int .i64 c.locals]) (k+1):=by
 intro l A a cap deep w hd hD hC;have hbd:=hD.bound
 by_cases h10:10<l.length
 . have:zgh c (k+1) l=false:=by rw [znc,decide_eq_false (by omega)];rfl
   rw [this];exact zir c s x1 y1 x2 y2 x3 n3 y3 iv a l.length cap deep w (by omega) h10 hbd
 have h10':l.length<=10:=by omega
 have HR:Hid (zgh c (k+1) l=l.all (ztc c k)):=by show _=_;rw [znc,decide_eq_true h10'];rfl
 have hd1:1<=deep:=by omega
 have hd6:deep<=6:=by omega
 have HI:=hid (fun x A aa cp ab cb ao co w=>zj1 c s x1 y1 x2 y2 x3 n3 y3 iv k (by omega) ih x A aa cp ab cb ao co (deep+1) w (by omega));have HD:=hid hD;have HC:=hid hC;clear hD hC hd h10 ih;go_enter Tryz.func128,Tryz.ntmps128;go_wp2_with fail
 go_loopw [18] (fun i wr=>∃ j:Nat,j<=l.length/\i = .int .i64 j/\(l.take j).all (ztc c k)=true/\Below w.heap.size w wr/\wr.heap[w.heap.size]? = some (.cells #[.string s,.slice x1 c.uses y1,.int .i64 c.data,.slice x2 c.parts.length y2,.slice x3 n3 y3,iv,.int .i64 c.locals] 206)) (fun i _=>l.length - (intOf i).toNat)
 case atStart=>exact ⟨0,vad _,rfl,rfl,al1 _ _,heap_newP _ _⟩
 case round=>
  obtain ⟨j,hj,rfl,hall,hb,hB⟩:=hrel;obtain ⟨q0,q1,q2,q3,q4,q5,q6,qz⟩:=zds hB;have HB:=hid hb;have HX:=hid hB;have HL:=hid hall;clear hall hB hb
  by_cases hlt:j<l.length
  . obtain ⟨b,off,aa,cp,ab,cb,ao,co,rfl,hx⟩:=(HD.out.later HB.out).ac j hlt
    have HF:=hid (fun (h:ztc c k l[j]=false)=>all_not l (ztc c k) j hlt h);have HT:=hid (fun (h:ztc c k l[j]=true)=>(by rw [all_snoc l _ j hlt,HL.out,h];rfl:(l.take (j+1)).all (ztc c k)=true));obtain ⟨hbl,x0,x1',x2',x3',x4,x5,x6,hargs,hbody,hother,_,_,hm,hat⟩:=hx;have hal:=hargs.bound;have HA:=hid hargs;have HBo:=hid hbody;have HOt:=hid hother;have HM:=hid hm;have HAt:=hid hat;clear hargs hbody hother hm hat;generalize l[j]=x at *;go_wp2_with fail;refine (znb c s x1 y1 x2 y2 x3 n3 y3 iv x aa cp ab cb ao co _ (HC.out.later (thenB HB.out (al1 _ _))) HM.out HAt.out hal).mono ?_
    cases h1:zb2 c x with
    | false=>
      rintro e w3 ⟨rfl,hb3⟩;have HB3:=hid (thenB HB.out (thenB (al1 _ _) hb3));have HF':=hid (HF.out (by unfold ztc;rw [h1];rfl));clear hb3;go_wp2_with fail;go_ret;exact ⟨zaa (by rw [HR.out,HF'.out]),HB3.out⟩
    | true=>
      rintro e w3 ⟨rfl,hb3⟩;have HB3:=hid (thenB (al1 wr _) hb3);have p1:=(HB3.out.block _ (zab HX.out)).trans HX.out;have p2:=(hb3.block _ (by simp)).trans (heap_newP wr (.cells #[.int .i64 x.op,.int .i64 x.n,.int .i64 x.m,.int .i64 x.at_,.slice aa x.args.length cp,.slice ab x.body.length cb,.slice ao x.other.length co] 109));have HX3:=hid p1;have HY3:=hid p2;clear q0 q1 q2 q3 q4 q5 q6 qz x0 x1' x2' x3' x4 x5 x6 hbl;obtain ⟨q0,q1,q2,q3,q4,q5,q6,qz⟩:=zds p1;obtain ⟨z0,z1,z2,z3,z4,z5,z6,zz⟩:=zds p2;clear hb3 p1 p2;go_wp2_with fail;refine (zgn c s x1 y1 x2 y2 x3 n3 y3 iv 6 (by decide) x.args A aa cp 1 _ (by decide) (HA.out.later HB3.out) (HC.out.later (thenB HB.out HB3.out))).mono ?_
      cases h2:zj9 c 6 x.args with
      | false=>
        rintro e w4 ⟨rfl,hb4⟩;have HB4:=hid (thenB (thenB HB.out HB3.out) hb4);have HF':=hid (HF.out (by unfold ztc;rw [h1,h2];rfl));clear hb4;go_wp2_with fail;go_ret;exact ⟨zaa (by rw [HR.out,HF'.out]),HB4.out⟩
      | true=>
        rintro e w4 ⟨rfl,hb4⟩;have HB4:=hid (thenB HB3.out hb4);have p1:=(hb4.block _ (zab HX3.out)).trans HX3.out;have p2:=(hb4.block _ (zab HY3.out)).trans HY3.out;have HX4:=hid p1;clear q0 q1 q2 q3 q4 q5 q6 qz z0 z1 z2 z3 z4 z5 z6 zz;obtain ⟨q0,q1,q2,q3,q4,q5,q6,qz⟩:=zds p1;obtain ⟨z0,z1,z2,z3,z4,z5,z6,zz⟩:=zds p2;clear hb4 p1 p2;go_wp2_with fail;refine (HI.out x A aa cp ab cb ao co _ (HBo.out.later HB4.out) (HOt.out.later HB4.out) (HC.out.later (thenB HB.out HB4.out))).mono ?_
        cases h3:zwe c k x with
        | false=>
          rintro e w5 ⟨rfl,hb5⟩;have HB5:=hid (thenB (thenB HB.out HB4.out) hb5);have HF':=hid (HF.out (by unfold ztc;rw [h1,h2,h3];rfl));clear hb5;go_wp2_with fail;go_ret;exact ⟨zaa (by rw [HR.out,HF'.out]),HB5.out⟩
        | true=>
          rintro e w5 ⟨rfl,hb5⟩;have HB5:=hid (thenB (thenB HB.out HB4.out) hb5);have HX5:=hid ((hb5.block _ (zab HX4.out)).trans HX4.out);have HT':=hid (HT.out (by unfold ztc;rw [h1,h2,h3];rfl));clear hb5;go_wp2_with fail;go_roundw
          case rel=>exact ⟨j+1,by omega,by go_num,HT'.out,HB5.out,HX5.out⟩
          case measure=>simp [intOf];omega
  . have HT:Hid (l.all (ztc c k)=true):=zb1 HL.out hlt
    go_wp2_with fail;go_ret;exact ⟨zaa (by rw [HR.out,HT.out]),HB.out⟩
theorem zd5 (c:Ck) (s:ByteArray) (x1:OA) (y1:Nat) (x2:OA) (y2:Nat) (x3:OA) (n3 y3:Nat) (iv:Value):∀ (k:Nat),k<=6->zlr c (.agg #[.string s,.slice x1 c.uses y1,.int .i64 c.data,.slice x2 c.parts.length y2,.slice x3 n3 y3,iv,.int .i64 c.locals]) k
 | 0,_=>fun l A a cap deep w hd _ _=>by
   obtain rfl:deep=7:=by omega
   exact ziq c s x1 y1 x2 y2 x3 n3 y3 iv a l.length cap w
 | k+1,hk=>zr2 c s x1 y1 x2 y2 x3 n3 y3 iv k hk (zd5 c s x1 y1 x2 y2 x3 n3 y3 iv k (by omega))
set_option maxHeartbeats 1600000
theorem zxb:laidOutB Tryz.prog=true:=by kernel_rfl
theorem zxc:Tryz.prog.keyType 244=true:=by kernel_rfl
theorem zls:Keyed Tryz.prog 244:=Keyed.of_law (deep_law_laid zxb (m:=3) (by decide) (of_decide_eq_true (by kernel_rfl)) (by kernel_rfl) (by kernel_rfl))
def zhs (mod name:ByteArray):Lit:=.string (keyBytes [.string mod.data.toList,.string name.data.toList])
theorem zgo (mod name:ByteArray) (h1:mod.size<=maxLen) (h2:name.size<=maxLen):keyOf Tryz.prog 244 (.agg #[.string mod,.string name])=some (zhs mod name):=by
 have hf:(Value.agg #[.string mod,.string name]).formed Tryz.prog 244=true:=by kernel_rfl
 have hl:Tryz.prog.keyLits (Tryz.prog.types.size+1) 244 (Value.agg #[.string mod,.string name]).cells.toList=some [.string mod.data.toList,.string name.data.toList]:=by
  have h0:0<Tryz.prog.types.size:=of_decide_eq_true (by kernel_rfl)
  obtain ⟨k,hk⟩:∃ k,Tryz.prog.types.size=k+1:=⟨Tryz.prog.types.size - 1,by omega⟩
  rw [hk]
  have hs:∀ s:ByteArray,s.size<=maxLen->Tryz.prog.keyLits (k+1) 9 [.string s]=some [.string s.data.toList]:=fun s h=>by
   unfold Program.keyLits;rw [Tryz.underlying9];exact if_pos h
  have e:(Value.agg #[.string mod,.string name]).cells.toList=[.string mod,.string name]:=rfl
  have c2:Tryz.prog.cellsOf 244=2:=by kernel_rfl
  have c9:Tryz.prog.cellsOf 9=1:=by kernel_rfl
  rw [e];unfold Program.keyLits;rw [Tryz.underlying244];simp [c2,c9,hs mod h1,hs name h2]
 unfold keyOf;rw [Tryz.underlying244];simp only [zxc,hf,hl]
 rfl
theorem zt7 {a b c d:ByteArray} (h1:a.size<=maxLen) (h2:b.size<=maxLen) (h3:c.size<=maxLen) (h4:d.size<=maxLen) (h:¬ (a=c/\b=d)):zhs a b≠zhs c d:=fun e=>by
 have k1:=zgo a b h1 h2;have k2:=zgo c d h3 h4;rw [← e] at k2;have:=zls.inj k1 k2
 injection this with this
 have:=congrArg Array.toList this;simp at this;exact h this
def zzw (K:Kn) (mod name:ByteArray) (x:Mg):Kn:=fun a b=>if a=mod/\b=name then some x else K a b
def z2t (D:DataW Value) (K:Kn):Prop:=∀ a b:ByteArray,a.size<=maxLen->b.size<=maxLen->has D (zhs a b)=(K a b).isSome/\D.atKey (zhs a b) (.held mg0.val) = .held ((K a b).getD mg0).val
theorem z2t.put {D:DataW Value} {K:Kn} (h:z2t D K) (hD:IsMap D) (mod name:ByteArray) (h1:mod.size<=maxLen) (h2:name.size<=maxLen) (x:Mg):z2t (D.put (zhs mod name) (.held x.val)) (zzw K mod name x):=by
 intro a b ha hb
 by_cases e:a=mod/\b=name
 . obtain ⟨rfl,rfl⟩:=e
   simp only [zzw,and_self,if_true];exact ⟨has_put_same (k:=zhs a b) hD trivial _,atKey_put_same (k:=zhs a b) hD trivial _ _⟩
 . have hne:=zt7 ha hb h1 h2 e
   simp only [zzw,if_neg e];rw [has_put_other hne,atKey_put_other hne];exact h a b ha hb
def zjr (w:World) (b n:Nat) (K:Kn):Prop:=∃ D,w.ownsMap Tryz.prog 244 ztk b n D/\z2t D K
theorem zjr.lt {w:World} {b n:Nat} {K:Kn} (h:zjr w b n K):b<w.heap.size:=by obtain ⟨D,h1,_⟩:=h;exact h1.lt
theorem zjr.block {w w':World} {b n:Nat} {K:Kn} (h:zjr w b n K) (hb:w'.heap[b]? = w.heap[b]?):zjr w' b n K:=by
 obtain ⟨D,h1,h2⟩:=h;obtain ⟨es,clock,hb',r⟩:=h1;exact ⟨D,⟨es,clock,hb.trans hb',r⟩,h2⟩
theorem zjr.later {w w':World} {b n:Nat} {K:Kn} (h:zjr w b n K) (hb:Below w.heap.size w w'):zjr w' b n K:=h.block (hb.block b h.lt)
theorem zjr.made (w:World):zjr (w.alloc (.map #[] 0)) w.heap.size 0 (fun _ _=>none):=⟨.map [],vek w _ _ _,fun _ _ _ _=>⟨rfl,rfl⟩⟩
theorem z1o (w:World):(zeroValue 242).run Tryz.prog w = .ok mg0.val w:=by kernel_rfl
theorem zjr.known {w:World} {b n:Nat} {K:Kn} (h:zjr w b n K):zj8 w (.map (some b)) K:=by
 intro w' hb mod name h1 h2;obtain ⟨D,k1,k2⟩:=h.later hb;obtain ⟨v,ps,hrun,hv⟩:=k1.look_ok zls Tryz.underlying187 (z1o w') (zd:=.held mg0.val) (zp:=[]) rfl (zgo mod name h1 h2);rw [(k2 mod name h1 h2).2] at hv;simp only [ztk,vcy,vdn,vdp] at hv;rw [hrun,hv.1,(k2 mod name h1 h2).1]
theorem zjr.put {w:World} {b n:Nat} {K:Kn} (h:zjr w b n K) (hn:n<maxLen) (mod name:ByteArray) (h1:mod.size<=maxLen) (h2:name.size<=maxLen) (x:Mg) :
 ∃ w',(Instr.mapUpdate 187 (.map (some b)) (.agg #[.string mod,.string name]) x.val).run Tryz.prog w = .ok () w'/\zjr w' b (n+1) (zzw K mod name x)/\w.grownBy w' (some b):=by
 obtain ⟨D,k1,k2⟩:=h;obtain ⟨w',r1,r2,r3⟩:=k1.update zls Tryz.underlying187 hn (zgo mod name h1 h2) (val:=x.val) (d:=.held x.val) (ps:=[]) rfl;exact ⟨w',r1,⟨_,r2,k2.put k1.isMap mod name h1 h2 x⟩,r3⟩
theorem Keeps.grown {R:Nat} {w w1 w2:World} (h:Keeps R w w1) (hg:w1.grownBy w2 (some R)):Keeps R w w2:=
 h.trans ⟨hg.os,hg.tape,hg.output,hg.size,fun k h1 h2=>hg.block k h1 (fun e=>h2 (vab e))⟩
def z1p (m:Int) (i:It):Mg:=⟨i.kind,i.n,m,i.at_⟩
def zhg (K:Kn) (mod:ByteArray) (m:Int) (l:List It):Kn:=l.foldl (fun K i=>zzw K mod i.name (z1p m i)) K
theorem zr3 (K:Kn) (mod:ByteArray) (m:Int) (l:List It) (i:It):zhg K mod m (l++[i])=zzw (zhg K mod m l) mod i.name (z1p m i):=by
 unfold zhg;rw [vcd];rfl
theorem zis (K:Kn) (b n:Nat) (mod:ByteArray) (mm:Int) (l:List It) (a:OA) (cap:Nat) (w:World) (hK:zjr w b n K) (hm:mod.size<=maxLen) (hI:Fx.zcd w a l) (hF:Fx.AllFit l) (hl:l.length<=1000) (hn:n<=1000) (hab:∀ b' off,l≠[]->a=some ⟨b',off,none⟩->b'≠b) :
 Calls Tryz.prog 119 #[.agg #[.map (some b)],.string mod,.int .i64 mm,.slice a l.length cap] w fun e w'=>e = .returned (.tuple #[])/\zjr w' b (n+l.length) (zhg K mod mm l)/\Keeps b w w':=by
 have HI:=hid hI;have HF:=hid hF;have HK:=hid hK;have HAB:=hid hab;have hbw:=hK.lt;clear hI hF hK hab;go_enter Tryz.func119,Tryz.ntmps119;go_wp2_with fail
 go_loopw [9,12] (fun _ i wr=>∃ j:Nat,j<=l.length/\i = .int .i64 j/\zjr wr b (n+j) (zhg K mod mm (l.take j))/\wr.heap[w.heap.size]? = some (.cells #[.map (some b)] 189)/\Keeps b w wr) (fun _ i _=>l.length - (intOf i).toNat)
 case atStart=>exact ⟨0,vad _,rfl,HK.out.later (al1 _ _),heap_newP _ _,(Keeps.refl _ _).alloc _⟩
 case round=>
  obtain ⟨j,hj,rfl,hk,hbx,hke⟩:=hrel;have HKj:=hid hk;have HX:=hid hbx;have HE:=hid hke;have hzr:=hke.size;have hxlt:=zab hbx;clear hk hke
  by_cases hlt:j<l.length
  . obtain ⟨b2,off,rfl,hbl,c0,c1,c2,c3⟩:=HI.out.place hlt
    have hne:=HAB.out b2 off (fun h=>by rw [h] at hlt;simp at hlt) rfl;have d0:=(HE.out.cell (off:=off+j*4) hbl hne).trans c0;have d1:=(HE.out.cell (off:=off+j*4+1) hbl hne).trans c1;have d2:=(HE.out.cell (off:=off+j*4+2) hbl hne).trans c2;have d3:=(HE.out.cell (off:=off+j*4+3) hbl hne).trans c3;have hbl':b2<wr.heap.size:=vac hbl hzr;have hnm:=HF.out l[j] (vah _)
    have HSn:Hid (zzw (zhg K mod mm (l.take j)) mod l[j].name (z1p mm l[j])=zhg K mod mm (l.take (j+1))):=by
     show _=zhg K mod mm (l.take (j+1));rw [vaf hlt,zr3]
    generalize l[j]=x at *;obtain ⟨w2,hrun,hK2,hg2⟩:=(HKj.out.later (al1 _ (.cells #[.int .i64 x.kind,.int .i64 x.n,.int .i64 x.at_,.string x.name] 98))).put (by unfold maxLen;omega) mod x.name hm hnm (z1p mm x);simp only [Mg.val,z1p] at hrun;rw [HSn.out] at hK2;have HK2:=hid hK2;have HE2:=hid ((HE.out.alloc _).grown hg2);have HX2:Hid (w2.heap[w.heap.size]? = some (.cells #[.map (some b)] 189)):=(hg2.block _ (by simp;omega) (fun e=>by have:=vab e;omega)).trans (zae HX.out)
    have k0:wr.cell? ⟨w.heap.size,0,none⟩=some (.map (some b)):=by rw [vee HX.out];rfl
    clear c0 c1 c2 c3 hK2 hg2 hbx hnm;go_wp2_with fail;go_roundw
    case rel=>exact ⟨j+1,by omega,by go_num,by rw [← vbs];exact HK2.out,HX2.out,HE2.out⟩
    case measure=>simp [intOf];omega
  . obtain rfl:j=l.length:=by omega
    have HKl:Hid (zjr wr b (n+l.length) (zhg K mod mm l)):=by have:=HKj.out;rw [vaz] at this;exact this
    clear hbx;go_wp2_with fail;go_end0;exact ⟨rfl,HKl.out,HE.out⟩
end Go.Proofs.YtndkhgakfodldaaGreatDoor
