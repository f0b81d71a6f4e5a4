/-
  What is the same is held the same: lists of texts, expressions, blocks.
-/
import Derived.Test.YtcekpobmbmnplaaGreatDoorSi
import Derived.Deep.QuietTactic
import Derived.BigQuiet
import Derived.BigRegion
import Derived.Test.YtcekpobmbmnplaaGreatDoorQc
namespace Go.Proofs.YtcekpobmbmnplaaGreatDoor
set_option maxRecDepth 100000
set_option maxHeartbeats 3200000
open Go.RowKit Go.Shelf
theorem DAt.drewN {A:Nat->Prop} {w:World} {n:Nat} {a:Option Addr} {ds:List D} (h:DAt w A a n ds) (k:Nat):DAt (w.drewN k) A a n ds:=h.moves ⟨by simp,fun b _ hb=>⟨hb,by simp⟩⟩
theorem zgu (l:List ByteArray) (a b:Option Addr) (c d:Nat) (w:World) (ha:DAt w Tt a l.length (zax l)) (hb:DAt w Tt b l.length (zax l)) :
 Calls Tryz.prog 27 #[.slice a l.length c,.slice b l.length d] w fun e w'=>e = .returned (.bool true)/\∃ n,w'=w.drewN n:=by
 have hbd:=ha.bound;have HA:=hid ha;have HB:=hid hb;clear ha hb;go_enter Tryz.func27,Tryz.ntmps27;go_wp2_with fail
 go_loopw [5] (fun i wr=>∃ k n:Nat,k<=l.length/\i = .int .i64 k/\wr=w.drewN n) (fun i _=>l.length - (intOf i).toNat)
 case atStart=>exact ⟨0,0,Nat.zero_le _,rfl,rfl⟩
 case round=>
  obtain ⟨k,n,hk,rfl,rfl⟩:=hrel
  by_cases hlt:k<l.length
  . obtain ⟨b1,o1,rfl,h1,c1,_⟩:=HA.out.str k hlt
    obtain ⟨b2,o2,rfl,h2,c2,_⟩:=HB.out.str k hlt;go_wp2_with fail
    go_quiet ((fail))
    go_wp2_with fail;go_roundw
    case rel=>exact ⟨k+1,_,by omega,by go_num,rfl⟩
    case measure=>simp [intOf];omega
  . go_wp2_with fail
    go_ret;exact ⟨rfl,n,rfl⟩
theorem ztg (x:Ex):SizeOf.sizeOf x.args<SizeOf.sizeOf x:=by
 cases x
 simp [Ex.args];omega
theorem zwg (N:Nat):∀ (l:List Ex) (_:SizeOf.sizeOf l<N) (a b:Option Addr) (c d:Nat) (w:World) (_:DAt w Tt a l.length (zaw l)) (_:DAt w Tt b l.length (zaw l)),
 Calls Tryz.prog 58 #[.slice a l.length c,.slice b l.length d] w fun e w'=>e = .returned (.bool true)/\∃ n,w'=w.drewN n:=by
 induction N with
 | zero=>intro l hl;omega
 | succ N ih=>
 intro l hl a b c d w ha hb;have hbd:=ha.bound;have HA:=hid ha;have HB:=hid hb;have HI:=hid ih;clear ha hb ih;go_enter Tryz.func58,Tryz.ntmps58;go_wp2_with fail
 go_loopw [5] (fun i wr=>∃ k n:Nat,k<=l.length/\i = .int .i64 k/\wr=w.drewN n) (fun i _=>l.length - (intOf i).toNat)
 case atStart=>exact ⟨0,0,Nat.zero_le _,rfl,rfl⟩
 case round=>
  obtain ⟨k,n,hk,rfl,hwr⟩:=hrel;have HWr:=hid hwr
  have HA':Hid (DAt wr Tt a l.length (zaw l)):=by rw [hwr];exact HA.out.drewN n
  have HB':Hid (DAt wr Tt b l.length (zaw l)):=by rw [hwr];exact HB.out.drewN n
  clear hwr
  by_cases hlt:k<l.length
  . obtain ⟨b1,o1,p1,q1,rfl,h1⟩:=HA'.out.ex k hlt
    obtain ⟨b2,o2,p2,q2,rfl,h2⟩:=HB'.out.ex k hlt;have x0:=h1.c0;have x1:=h1.c1;have x2:=h1.c2;have x3:=h1.c3;have x4:=h1.c4;have y0:=h2.c0;have y1:=h2.c1;have y2:=h2.c2;have y3:=h2.c3;have y4:=h2.c4;have z1:=h1.lt;have z2:=h2.lt
    have HC:Hid (∀ j,Calls Tryz.prog 58 #[.slice p1 l[k].args.length q1,.slice p2 l[k].args.length q2] (wr.drewN j) fun e w'=>e = .returned (.bool true)/\∃ m,w'=(wr.drewN j).drewN m):=fun j=>by
     exact HI.out l[k].args (by
      have e1:=ztg l[k];have e2:=List.sizeOf_lt_of_mem (List.getElem_mem hlt)
      omega) p1 p2 q1 q2 _ (h1.args.drewN j) (h2.args.drewN j)
    clear h1 h2;go_wp2_with fail
    go_quiet ((go_at_call 58;exact Calls.quiet_of (HC.out _)))
    go_wp2_with fail;go_roundw
    case rel=>exact ⟨k+1,_,by omega,by go_num,by rw [HWr.out,World.drewN_drewN]⟩
    case measure=>simp [intOf];omega
  . go_wp2_with fail
    go_ret;exact ⟨rfl,n,HWr.out⟩
theorem znr (l:List Ex) (a b:Option Addr) (c d:Nat) (w:World) (ha:DAt w Tt a l.length (zaw l)) (hb:DAt w Tt b l.length (zaw l)) :
 Calls Tryz.prog 58 #[.slice a l.length c,.slice b l.length d] w fun e w'=>e = .returned (.bool true)/\∃ n,w'=w.drewN n:=zwg (SizeOf.sizeOf l+1) l (by omega) a b c d w ha hb
theorem zth (x:St):SizeOf.sizeOf x.body<SizeOf.sizeOf x/\SizeOf.sizeOf x.other<SizeOf.sizeOf x:=by
 cases x
 simp [St.body,St.other];omega
def SmB (N:Nat) (w:World) (L:List St) (P Q:Option Addr):Prop:=SizeOf.sizeOf L<N/\DAt w Tt P L.length (za0 L)/\DAt w Tt Q L.length (za0 L)
theorem zti (N:Nat):∀ (l:List St) (_:SizeOf.sizeOf l<N) (a b:Option Addr) (c d:Nat) (w:World) (_:DAt w Tt a l.length (za0 l)) (_:DAt w Tt b l.length (za0 l)),
 Calls Tryz.prog 28 #[.slice a l.length c,.slice b l.length d] w fun e w'=>e = .returned (.bool true)/\∃ n,w'=w.drewN n:=by
 induction N with
 | zero=>intro l hl;omega
 | succ N ih=>
 intro l hl a b c d w ha hb;have hbd:=ha.bound;have HA:=hid ha;have HB:=hid hb;have HI:=hid ih;clear ha hb ih;go_enter Tryz.func28,Tryz.ntmps28;go_wp2_with fail
 go_loopw [5] (fun i wr=>∃ k n:Nat,k<=l.length/\i = .int .i64 k/\wr=w.drewN n) (fun i _=>l.length - (intOf i).toNat)
 case atStart=>exact ⟨0,0,Nat.zero_le _,rfl,rfl⟩
 case round=>
  obtain ⟨k,n,hk,rfl,hwr⟩:=hrel;have HWr:=hid hwr
  have HA':Hid (DAt wr Tt a l.length (za0 l)):=by rw [hwr];exact HA.out.drewN n
  have HB':Hid (DAt wr Tt b l.length (za0 l)):=by rw [hwr];exact HB.out.drewN n
  clear hwr
  by_cases hlt:k<l.length
  . obtain ⟨b1,o1,p1,q1,p3,q3,p5,q5,rfl,h1⟩:=HA'.out.st k hlt
    obtain ⟨b2,o2,p2,q2,p4,q4,p6,q6,rfl,h2⟩:=HB'.out.st k hlt;have x0:=h1.c0;have x1:=h1.c1;have x2:=h1.c2;have x3:=h1.c3;have x4:=h1.c4;have x5:=h1.c5;have y0:=h2.c0;have y1:=h2.c1;have y2:=h2.c2;have y3:=h2.c3;have y4:=h2.c4;have y5:=h2.c5;have z1:=h1.lt;have z2:=h2.lt;have e2:=List.sizeOf_lt_of_mem (List.getElem_mem hlt);have e1:=zth l[k]
    have HC1:Hid (∀ j,Calls Tryz.prog 58 #[.slice p1 l[k].args.length q1,.slice p2 l[k].args.length q2] (wr.drewN j) fun e w'=>e = .returned (.bool true)/\∃ m,w'=(wr.drewN j).drewN m):=fun j=>by
     exact znr l[k].args p1 p2 q1 q2 _ (h1.args.drewN j) (h2.args.drewN j)
    have HC2:Hid (∀ j (L:List St) (P Q:Option Addr) (c d:Nat),SmB N wr L P Q->Calls Tryz.prog 28 #[.slice P L.length c,.slice Q L.length d] (wr.drewN j) fun e w'=>e = .returned (.bool true)/\∃ m,w'=(wr.drewN j).drewN m):=fun j L P Q c d hs=>HI.out L hs.1 P Q c d _ (hs.2.1.drewN j) (hs.2.2.drewN j)
    have HS2:Hid (SmB N wr l[k].body p3 p4):=⟨by omega,h1.body,h2.body⟩
    have HS3:Hid (SmB N wr l[k].other p5 p6):=⟨by omega,h1.other,h2.other⟩
    clear h1 h2 e1 e2;go_wp2_with fail
    go_quiet ((first | (go_at_call 58;exact Calls.quiet_of (HC1.out _)) | (go_at_call 28;exact Calls.quiet_of (HC2.out _ _ _ _ _ _ (by first | exact HS2.out | exact HS3.out)))))
    go_wp2_with fail;go_roundw
    case rel=>exact ⟨k+1,_,by omega,by go_num,by rw [HWr.out,World.drewN_drewN]⟩
    case measure=>simp [intOf];omega
  . go_wp2_with fail
    go_ret;exact ⟨rfl,n,HWr.out⟩
theorem zfi (l:List St) (a b:Option Addr) (c d:Nat) (w:World) (ha:DAt w Tt a l.length (za0 l)) (hb:DAt w Tt b l.length (za0 l)) :
 Calls Tryz.prog 28 #[.slice a l.length c,.slice b l.length d] w fun e w'=>e = .returned (.bool true)/\∃ n,w'=w.drewN n:=zti (SizeOf.sizeOf l+1) l (by omega) a b c d w ha hb
end Go.Proofs.YtcekpobmbmnplaaGreatDoor

namespace Go.Proofs.YtcekpobmbmnplaaGreatDoor
set_option maxRecDepth 100000
set_option maxHeartbeats 6400000
open Go.RowKit Go.Shelf
theorem zem {B:Nat} {a w:World} (h:Below B a w) (m:Nat):Below B a (w.drewN m):=⟨h.os,h.tape,h.output,h.size,h.block⟩
theorem ze4 (m:Mo) (v u:Value) (a1:Option Addr) (c1:Nat) (a2:Option Addr) (c2:Nat) (a3:Option Addr) (c3:Nat) (a4:Option Addr) (c4:Nat) (b1:Option Addr) (d1:Nat) (b2:Option Addr) (d2:Nat) (b3:Option Addr) (d3:Nat) (b4:Option Addr) (d4:Nat) (w:World) (hA:MoAt w Tt m v a1 c1 a2 c2 a3 c3 a4 c4) (hB:MoAt w Tt m u b1 d1 b2 d2 b3 d3 b4 d4) :
 Calls Tryz.prog 11 #[v,u] w fun e w'=>e = .returned (.bool true)/\Below w.heap.size w w':=by
 obtain rfl:=hA.val;obtain rfl:=hB.val;have HA:=hid hA;have HB:=hid hB;have hb2:=hA.decls.bound;have hb3:=hA.procs.bound
 obtain ⟨W0,hW0⟩:∃ W0,W0=(w.alloc (.cells #[.string m.name,.slice a1 m.uses.length c1,.slice a2 m.decls.length c2,.slice a3 m.procs.length c3,.slice a4 m.main.length c4] 27)).alloc (.cells #[.string m.name,.slice b1 m.uses.length d1,.slice b2 m.decls.length d2,.slice b3 m.procs.length d3,.slice b4 m.main.length d4] 27):=⟨_,rfl⟩
 have HBl:Hid (Below w.heap.size w W0):=by rw [hW0];exact al2 _ _ _
 have HX1:Hid (W0.heap[w.heap.size]? = some (.cells #[.string m.name,.slice a1 m.uses.length c1,.slice a2 m.decls.length c2,.slice a3 m.procs.length c3,.slice a4 m.main.length c4] 27 (0,0))):=by rw [hW0];exact zai (heap_newP _ _)
 have HX2:Hid (W0.heap[w.heap.size+1]? = some (.cells #[.string m.name,.slice b1 m.uses.length d1,.slice b2 m.decls.length d2,.slice b3 m.procs.length d3,.slice b4 m.main.length d4] 27 (0,0))):=by
  rw [hW0]
  have e:∀ o:Obj,(w.alloc o).heap.size=w.heap.size+1:=fun o=>by simp
  rw [← e (.cells #[.string m.name,.slice a1 m.uses.length c1,.slice a2 m.decls.length c2,.slice a3 m.procs.length c3,.slice a4 m.main.length c4] 27)];exact heap_newP _ _
 have hz0:W0.heap.size=w.heap.size+1+1:=by rw [hW0];simp
 have hx1:w.heap.size<W0.heap.size:=by omega
 have hx2:w.heap.size+1<W0.heap.size:=by omega
 obtain ⟨x0,x1,x2,x3,x4,_⟩:=zaf HX1.out;obtain ⟨y0,y1,y2,y3,y4,_⟩:=zaf HX2.out;clear hA hB;go_enter Tryz.func11,Tryz.ntmps11;go_upto_region 1 with fail;rw [← hW0];clear hW0;go_wp2_with fail;refine (zgu m.uses a1 b1 c1 d1 W0 (HA.out.uses.later HBl.out) (HB.out.uses.later HBl.out)).mono ?_;rintro e w1 ⟨rfl,n1,rfl⟩;go_wp2_with fail;refine (zfi m.main a4 b4 c4 d4 _ ((HA.out.main.later HBl.out).drewN n1) ((HB.out.main.later HBl.out).drewN n1)).mono ?_;rintro e w2 ⟨rfl,n2,rfl⟩;go_wp2_with fail
 go_loopw [5] (fun i wr=>∃ k n:Nat,k<=m.decls.length/\i = .int .i64 k/\wr=W0.drewN n) (fun i _=>m.decls.length - (intOf i).toNat)
 case atStart=>exact ⟨0,_,Nat.zero_le _,rfl,by first | rfl | rw [World.drewN_drewN]⟩
 case round=>
  obtain ⟨k,n,hk,rfl,rfl⟩:=hrel
  by_cases hlt:k<m.decls.length
  . obtain ⟨e1,o1,rfl,h1⟩:=(HA.out.decls.later HBl.out).de k hlt
    obtain ⟨e2,o2,rfl,h2⟩:=(HB.out.decls.later HBl.out).de k hlt;have q0:=h1.c0;have q1:=h1.c1;have q2:=h1.c2;have q3:=h1.c3;have r0:=h2.c0;have r1:=h2.c1;have r2:=h2.c2;have r3:=h2.c3;have z1:=h1.lt;have z2:=h2.lt;clear h1 h2;go_wp2_with fail
    go_quiet ((fail))
    go_wp2_with fail;go_roundw
    case rel=>exact ⟨k+1,_,by omega,by go_num,rfl⟩
    case measure=>simp [intOf];omega
  . have HBn:Hid (Below W0.heap.size W0 (W0.drewN n)):=zem (Below.refl _ _) n
    go_wp2_with fail
    go_loopw [6,7,8] (fun i _ _ wr=>∃ k:Nat,k<=m.procs.length/\i = .int .i64 k/\Below W0.heap.size W0 wr) (fun i _ _ _=>m.procs.length - (intOf i).toNat)
    case atStart=>exact ⟨0,Nat.zero_le _,rfl,HBn.out⟩
    case round=>
     clear HBn;obtain ⟨j,hj,rfl,hbr⟩:=hrel;have HBr:=hid hbr;have hX1:=(hbr.block w.heap.size hx1).trans HX1.out;have hX2:=(hbr.block (w.heap.size+1) hx2).trans HX2.out;have hxr1:w.heap.size<wr.heap.size:=Nat.lt_of_lt_of_le hx1 hbr.size;have hxr2:w.heap.size+1<wr.heap.size:=Nat.lt_of_lt_of_le hx2 hbr.size;clear x0 x1 x2 x3 x4 y0 y1 y2 y3 y4;obtain ⟨x0,x1,x2,x3,x4,_⟩:=zaf hX1;obtain ⟨y0,y1,y2,y3,y4,_⟩:=zaf hX2;have HBw:=hid (zab HBl.out hbr);clear hX1 hX2
     by_cases hjl:j<m.procs.length
     . obtain ⟨e1,o1,p1,s1,p2,s2,p3,s3,rfl,h1⟩:=(HA.out.procs.later HBw.out).pr j hjl
       obtain ⟨e2,o2,p4,s4,p5,s5,p6,s6,rfl,h2⟩:=(HB.out.procs.later HBw.out).pr j hjl;have H1:=hid h1;have H2:=hid h2;have q0:=h1.c0;have q1:=h1.c1;have q2:=h1.c2;have q3:=h1.c3;have q4:=h1.c4;have r0:=h2.c0;have r1:=h2.c1;have r2:=h2.c2;have r3:=h2.c3;have r4:=h2.c4;have z1:=h1.lt;have z2:=h2.lt;clear h1 h2 hbr;go_wp2_with fail
       go_region
       . obtain ⟨W5,hW5⟩:∃ W5,W5=((wr.alloc (.cells #[.string m.procs[j].name,.bool m.procs[j].pub,.slice p1 m.procs[j].params.length s1,.slice p2 m.procs[j].locals.length s2,.slice p3 m.procs[j].body.length s3] 60)).alloc (.cells #[.string m.procs[j].name,.bool m.procs[j].pub,.slice p4 m.procs[j].params.length s4,.slice p5 m.procs[j].locals.length s5,.slice p6 m.procs[j].body.length s6] 60)).drew:=⟨_,rfl⟩
         have HB5:Hid (Below wr.heap.size wr W5):=by rw [hW5];exact (al2 _ _ _).drew
         have hz5:W5.heap.size=wr.heap.size+1+1:=by rw [hW5];simp
         have hA5:W5.heap[wr.heap.size]? = some (.cells #[.string m.procs[j].name,.bool m.procs[j].pub,.slice p1 m.procs[j].params.length s1,.slice p2 m.procs[j].locals.length s2,.slice p3 m.procs[j].body.length s3] 60 (0,0)):=by rw [hW5];exact zai (w:=wr.alloc (.cells #[.string m.procs[j].name,.bool m.procs[j].pub,.slice p1 m.procs[j].params.length s1,.slice p2 m.procs[j].locals.length s2,.slice p3 m.procs[j].body.length s3] 60)) (heap_newP _ _)
         have hB5:W5.heap[wr.heap.size+1]? = some (.cells #[.string m.procs[j].name,.bool m.procs[j].pub,.slice p4 m.procs[j].params.length s4,.slice p5 m.procs[j].locals.length s5,.slice p6 m.procs[j].body.length s6] 60 (0,0)):=by
          rw [hW5]
          have e:∀ o:Obj,(wr.alloc o).heap.size=wr.heap.size+1:=fun o=>by simp
          rw [← e (.cells #[.string m.procs[j].name,.bool m.procs[j].pub,.slice p1 m.procs[j].params.length s1,.slice p2 m.procs[j].locals.length s2,.slice p3 m.procs[j].body.length s3] 60)];exact heap_newP _ _
         obtain ⟨g0,g1,g2,g3,g4,_⟩:=zaf hA5;obtain ⟨i0,i1,i2,i3,i4,_⟩:=zaf hB5
         have hy1:wr.heap.size<W5.heap.size:=by omega
         have hy2:wr.heap.size+1<W5.heap.size:=by omega
         rw [← hW5];clear hW5 hA5 hB5;go_wp2_with fail;refine (zgu m.procs[j].params p1 p4 s1 s4 W5 (H1.out.params.later HB5.out) (H2.out.params.later HB5.out)).mono ?_;rintro e w6 ⟨rfl,n6,rfl⟩;go_wp2_with fail;refine (zgu m.procs[j].locals p2 p5 s2 s5 _ ((H1.out.locals.later HB5.out).drewN n6) ((H2.out.locals.later HB5.out).drewN n6)).mono ?_;rintro e w7 ⟨rfl,n7,rfl⟩;go_wp2_with fail;refine (zfi m.procs[j].body p3 p6 s3 s6 _ ((H1.out.body.later HB5.out).drewN (n6+n7)) ((H2.out.body.later HB5.out).drewN (n6+n7))).mono ?_;rintro e w8 ⟨rfl,n8,rfl⟩;have HB8:=hid (zem (zem (HBr.out.trans (HB5.out.mono HBr.out.size)) (n6+n7)) n8);generalize (W5.drewN (n6+n7)).drewN n8=W8 at *;go_wp2_with fail;go_roundw
         case rel=>exact ⟨j+1,by omega,by go_num,HB8.out⟩
         case measure=>simp [intOf];omega
       . obtain ⟨W5,hW5⟩:∃ W5,W5=((wr.alloc (.cells #[.string m.procs[j].name,.bool m.procs[j].pub,.slice p4 m.procs[j].params.length s4,.slice p5 m.procs[j].locals.length s5,.slice p6 m.procs[j].body.length s6] 60)).alloc (.cells #[.string m.procs[j].name,.bool m.procs[j].pub,.slice p1 m.procs[j].params.length s1,.slice p2 m.procs[j].locals.length s2,.slice p3 m.procs[j].body.length s3] 60)).drew:=⟨_,rfl⟩
         have HB5:Hid (Below wr.heap.size wr W5):=by rw [hW5];exact (al2 _ _ _).drew
         have hz5:W5.heap.size=wr.heap.size+1+1:=by rw [hW5];simp
         have hA5:W5.heap[wr.heap.size]? = some (.cells #[.string m.procs[j].name,.bool m.procs[j].pub,.slice p4 m.procs[j].params.length s4,.slice p5 m.procs[j].locals.length s5,.slice p6 m.procs[j].body.length s6] 60 (0,0)):=by rw [hW5];exact zai (w:=wr.alloc (.cells #[.string m.procs[j].name,.bool m.procs[j].pub,.slice p4 m.procs[j].params.length s4,.slice p5 m.procs[j].locals.length s5,.slice p6 m.procs[j].body.length s6] 60)) (heap_newP _ _)
         have hB5:W5.heap[wr.heap.size+1]? = some (.cells #[.string m.procs[j].name,.bool m.procs[j].pub,.slice p1 m.procs[j].params.length s1,.slice p2 m.procs[j].locals.length s2,.slice p3 m.procs[j].body.length s3] 60 (0,0)):=by
          rw [hW5]
          have e:∀ o:Obj,(wr.alloc o).heap.size=wr.heap.size+1:=fun o=>by simp
          rw [← e (.cells #[.string m.procs[j].name,.bool m.procs[j].pub,.slice p4 m.procs[j].params.length s4,.slice p5 m.procs[j].locals.length s5,.slice p6 m.procs[j].body.length s6] 60)];exact heap_newP _ _
         obtain ⟨g0,g1,g2,g3,g4,_⟩:=zaf hA5;obtain ⟨i0,i1,i2,i3,i4,_⟩:=zaf hB5
         have hy1:wr.heap.size<W5.heap.size:=by omega
         have hy2:wr.heap.size+1<W5.heap.size:=by omega
         rw [← hW5];clear hW5 hA5 hB5;go_wp2_with fail;refine (zgu m.procs[j].params p1 p4 s1 s4 W5 (H1.out.params.later HB5.out) (H2.out.params.later HB5.out)).mono ?_;rintro e w6 ⟨rfl,n6,rfl⟩;go_wp2_with fail;refine (zgu m.procs[j].locals p2 p5 s2 s5 _ ((H1.out.locals.later HB5.out).drewN n6) ((H2.out.locals.later HB5.out).drewN n6)).mono ?_;rintro e w7 ⟨rfl,n7,rfl⟩;go_wp2_with fail;refine (zfi m.procs[j].body p3 p6 s3 s6 _ ((H1.out.body.later HB5.out).drewN (n6+n7)) ((H2.out.body.later HB5.out).drewN (n6+n7))).mono ?_;rintro e w8 ⟨rfl,n8,rfl⟩;have HB8:=hid (zem (zem (HBr.out.trans (HB5.out.mono HBr.out.size)) (n6+n7)) n8);generalize (W5.drewN (n6+n7)).drewN n8=W8 at *;go_wp2_with fail;go_roundw
         case rel=>exact ⟨j+1,by omega,by go_num,HB8.out⟩
         case measure=>simp [intOf];omega
     . clear hbr
       go_wp2_with fail;go_ret;exact ⟨rfl,HBw.out⟩
end Go.Proofs.YtcekpobmbmnplaaGreatDoor

namespace Go.Proofs.YtcekpobmbmnplaaGreatDoor
set_option maxRecDepth 100000
open Go.RowKit
def zga:Mo:=⟨⟨#[99,110,116]⟩,[],[⟨1,⟨#[107]⟩,true,3⟩,⟨2,⟨#[115,117,109]⟩,true,0⟩,⟨3,⟨#[116]⟩,true,4⟩],
 [⟨⟨#[100,111,119,110]⟩,true,[⟨#[110]⟩],[⟨#[105]⟩],
   [.mk 1 ⟨#[]⟩ ⟨#[105]⟩ [.mk 3 0 ⟨#[]⟩ ⟨#[110]⟩ []] [] [],
    .mk 5 ⟨#[]⟩ ⟨#[]⟩ [.mk 3 0 ⟨#[]⟩ ⟨#[105]⟩ []]
     [.mk 1 ⟨#[]⟩ ⟨#[115,117,109]⟩ [.mk 9 0 ⟨#[]⟩ ⟨#[]⟩ [.mk 3 0 ⟨#[]⟩ ⟨#[115,117,109]⟩ [],.mk 3 0 ⟨#[]⟩ ⟨#[105]⟩ []]] [] [],
      .mk 1 ⟨#[]⟩ ⟨#[105]⟩ [.mk 10 0 ⟨#[]⟩ ⟨#[]⟩ [.mk 3 0 ⟨#[]⟩ ⟨#[105]⟩ [],.mk 1 1 ⟨#[]⟩ ⟨#[]⟩ []]] [] []] [],
    .mk 6 ⟨#[]⟩ ⟨#[]⟩ [.mk 3 0 ⟨#[]⟩ ⟨#[115,117,109]⟩ []] [] []]⟩],[]⟩
theorem zns:zga.err=0:=rfl
def cntS:ByteArray:=⟨#[109,111,100,117,108,101,32,99,110,116,32,123,32,112,117,98,32,99,111,110,115,116,32,107,32,61,32,51,32,59,32,112,117,98,32,118,97,114,32,115,117,109,32,59,32,112,117,98,32,97,114,114,97,121,32,116,32,91,32,52,32,93,32,59,32,112,117,98,32,112,114,111,99,32,100,111,119,110,32,40,32,110,32,41,32,108,111,99,97,108,32,105,32,59,32,123,32,105,32,61,32,110,32,59,32,119,104,105,108,101,32,105,32,123,32,115,117,109,32,61,32,40,32,115,117,109,32,43,32,105,32,41,32,59,32,105,32,61,32,40,32,105,32,45,32,49,32,41,32,59,32,125,32,114,101,116,117,114,110,32,115,117,109,32,59,32,125,32,109,97,105,110,32,123,32,125,32,125]⟩
def z0t:List Tk:=[⟨1,0,⟨#[109,111,100,117,108,101]⟩⟩,⟨1,0,⟨#[99,110,116]⟩⟩,⟨3,0,⟨#[123]⟩⟩,⟨1,0,⟨#[112,117,98]⟩⟩,⟨1,0,⟨#[99,111,110,115,116]⟩⟩,⟨1,0,⟨#[107]⟩⟩,⟨3,0,⟨#[61]⟩⟩,⟨2,3,⟨#[]⟩⟩,⟨3,0,⟨#[59]⟩⟩,⟨1,0,⟨#[112,117,98]⟩⟩,⟨1,0,⟨#[118,97,114]⟩⟩,⟨1,0,⟨#[115,117,109]⟩⟩,⟨3,0,⟨#[59]⟩⟩,⟨1,0,⟨#[112,117,98]⟩⟩,⟨1,0,⟨#[97,114,114,97,121]⟩⟩,⟨1,0,⟨#[116]⟩⟩,⟨3,0,⟨#[91]⟩⟩,⟨2,4,⟨#[]⟩⟩,⟨3,0,⟨#[93]⟩⟩,⟨3,0,⟨#[59]⟩⟩,⟨1,0,⟨#[112,117,98]⟩⟩,⟨1,0,⟨#[112,114,111,99]⟩⟩,⟨1,0,⟨#[100,111,119,110]⟩⟩,⟨3,0,⟨#[40]⟩⟩,⟨1,0,⟨#[110]⟩⟩,⟨3,0,⟨#[41]⟩⟩,⟨1,0,⟨#[108,111,99,97,108]⟩⟩,⟨1,0,⟨#[105]⟩⟩,⟨3,0,⟨#[59]⟩⟩,⟨3,0,⟨#[123]⟩⟩,⟨1,0,⟨#[105]⟩⟩,⟨3,0,⟨#[61]⟩⟩,⟨1,0,⟨#[110]⟩⟩,⟨3,0,⟨#[59]⟩⟩,⟨1,0,⟨#[119,104,105,108,101]⟩⟩,⟨1,0,⟨#[105]⟩⟩,⟨3,0,⟨#[123]⟩⟩,⟨1,0,⟨#[115,117,109]⟩⟩,⟨3,0,⟨#[61]⟩⟩,⟨3,0,⟨#[40]⟩⟩,⟨1,0,⟨#[115,117,109]⟩⟩,⟨3,0,⟨#[43]⟩⟩,⟨1,0,⟨#[105]⟩⟩,⟨3,0,⟨#[41]⟩⟩,⟨3,0,⟨#[59]⟩⟩,⟨1,0,⟨#[105]⟩⟩,⟨3,0,⟨#[61]⟩⟩,⟨3,0,⟨#[40]⟩⟩,⟨1,0,⟨#[105]⟩⟩,⟨3,0,⟨#[45]⟩⟩,⟨2,1,⟨#[]⟩⟩,⟨3,0,⟨#[41]⟩⟩,⟨3,0,⟨#[59]⟩⟩,⟨3,0,⟨#[125]⟩⟩,⟨1,0,⟨#[114,101,116,117,114,110]⟩⟩,⟨1,0,⟨#[115,117,109]⟩⟩,⟨3,0,⟨#[59]⟩⟩,⟨3,0,⟨#[125]⟩⟩,⟨1,0,⟨#[109,97,105,110]⟩⟩,⟨3,0,⟨#[123]⟩⟩,⟨3,0,⟨#[125]⟩⟩,⟨3,0,⟨#[125]⟩⟩]
theorem z0h:zc6 cntS 0=some z0t:=by
 rw [← zhj 178 cntS 0 (by decide)]
 kernel_rfl
theorem zx7:lexT cntS=z0t/\lexE cntS=0:=zgh (by decide) z0h
def z0i:ByteArray:=⟨#[109,111,100,117,108,101,32,116,111,112,123,117,115,101,32,99,110,116,59,109,97,105,110,123,99,110,116,46,116,91,49,93,61,99,110,116,46,100,111,119,110,40,99,110,116,46,107,41,59,111,117,116,32,99,110,116,46,116,91,105,110,93,59,105,102,40,99,110,116,46,115,117,109,61,54,41,123,111,117,116,32,55,59,125,101,108,115,101,123,111,117,116,32,56,59,125,125,125]⟩
def z3d:List Tk:=[⟨1,0,⟨#[109,111,100,117,108,101]⟩⟩,⟨1,0,⟨#[116,111,112]⟩⟩,⟨3,0,⟨#[123]⟩⟩,⟨1,0,⟨#[117,115,101]⟩⟩,⟨1,0,⟨#[99,110,116]⟩⟩,⟨3,0,⟨#[59]⟩⟩,⟨1,0,⟨#[109,97,105,110]⟩⟩,⟨3,0,⟨#[123]⟩⟩,⟨1,0,⟨#[99,110,116]⟩⟩,⟨3,0,⟨#[46]⟩⟩,⟨1,0,⟨#[116]⟩⟩,⟨3,0,⟨#[91]⟩⟩,⟨2,1,⟨#[]⟩⟩,⟨3,0,⟨#[93]⟩⟩,⟨3,0,⟨#[61]⟩⟩,⟨1,0,⟨#[99,110,116]⟩⟩,⟨3,0,⟨#[46]⟩⟩,⟨1,0,⟨#[100,111,119,110]⟩⟩,⟨3,0,⟨#[40]⟩⟩,⟨1,0,⟨#[99,110,116]⟩⟩,⟨3,0,⟨#[46]⟩⟩,⟨1,0,⟨#[107]⟩⟩,⟨3,0,⟨#[41]⟩⟩,⟨3,0,⟨#[59]⟩⟩,⟨1,0,⟨#[111,117,116]⟩⟩,⟨1,0,⟨#[99,110,116]⟩⟩,⟨3,0,⟨#[46]⟩⟩,⟨1,0,⟨#[116]⟩⟩,⟨3,0,⟨#[91]⟩⟩,⟨1,0,⟨#[105,110]⟩⟩,⟨3,0,⟨#[93]⟩⟩,⟨3,0,⟨#[59]⟩⟩,⟨1,0,⟨#[105,102]⟩⟩,⟨3,0,⟨#[40]⟩⟩,⟨1,0,⟨#[99,110,116]⟩⟩,⟨3,0,⟨#[46]⟩⟩,⟨1,0,⟨#[115,117,109]⟩⟩,⟨3,0,⟨#[61]⟩⟩,⟨2,6,⟨#[]⟩⟩,⟨3,0,⟨#[41]⟩⟩,⟨3,0,⟨#[123]⟩⟩,⟨1,0,⟨#[111,117,116]⟩⟩,⟨2,7,⟨#[]⟩⟩,⟨3,0,⟨#[59]⟩⟩,⟨3,0,⟨#[125]⟩⟩,⟨1,0,⟨#[101,108,115,101]⟩⟩,⟨3,0,⟨#[123]⟩⟩,⟨1,0,⟨#[111,117,116]⟩⟩,⟨2,8,⟨#[]⟩⟩,⟨3,0,⟨#[59]⟩⟩,⟨3,0,⟨#[125]⟩⟩,⟨3,0,⟨#[125]⟩⟩,⟨3,0,⟨#[125]⟩⟩]
theorem z0j:zc6 z0i 0=some z3d:=by
 rw [← zhj 98 z0i 0 (by decide)]
 kernel_rfl
theorem zx8:lexT z0i=z3d/\lexE z0i=0:=zgh (by decide) z0j
def z0k:ByteArray:=⟨#[109,111,100,117,108,101,32,120,32,123,32,109,97,105,110,32,123,32,105,102,32,49,32,123,32,125,32,101,108,115,101,32,123,32,125,32,125,32,125]⟩
def z3e:List Tk:=[⟨1,0,⟨#[109,111,100,117,108,101]⟩⟩,⟨1,0,⟨#[120]⟩⟩,⟨3,0,⟨#[123]⟩⟩,⟨1,0,⟨#[109,97,105,110]⟩⟩,⟨3,0,⟨#[123]⟩⟩,⟨1,0,⟨#[105,102]⟩⟩,⟨2,1,⟨#[]⟩⟩,⟨3,0,⟨#[123]⟩⟩,⟨3,0,⟨#[125]⟩⟩,⟨1,0,⟨#[101,108,115,101]⟩⟩,⟨3,0,⟨#[123]⟩⟩,⟨3,0,⟨#[125]⟩⟩,⟨3,0,⟨#[125]⟩⟩,⟨3,0,⟨#[125]⟩⟩]
theorem z0l:zc6 z0k 0=some z3e:=by
 rw [← zhj 39 z0k 0 (by decide)]
 kernel_rfl
theorem zx9:lexT z0k=z3e/\lexE z0k=0:=zgh (by decide) z0l
theorem z3r:znb z3e=none:=by kernel_rfl
def z0m:Mo:=⟨⟨#[116,111,112]⟩,[⟨#[99,110,116]⟩],[],[],[.mk 2 ⟨#[99,110,116]⟩ ⟨#[116]⟩ [.mk 1 1 ⟨#[]⟩ ⟨#[]⟩ [],.mk 5 0 ⟨#[99,110,116]⟩ ⟨#[100,111,119,110]⟩ [.mk 3 0 ⟨#[99,110,116]⟩ ⟨#[107]⟩ []]] [] [],
 .mk 7 ⟨#[]⟩ ⟨#[]⟩ [.mk 4 0 ⟨#[99,110,116]⟩ ⟨#[116]⟩ [.mk 2 0 ⟨#[]⟩ ⟨#[]⟩ []]] [] [],
 .mk 4 ⟨#[]⟩ ⟨#[]⟩ [.mk 14 0 ⟨#[]⟩ ⟨#[]⟩ [.mk 3 0 ⟨#[99,110,116]⟩ ⟨#[115,117,109]⟩ [],.mk 1 6 ⟨#[]⟩ ⟨#[]⟩ []]] [.mk 7 ⟨#[]⟩ ⟨#[]⟩ [.mk 1 7 ⟨#[]⟩ ⟨#[]⟩ []] [] []] [.mk 7 ⟨#[]⟩ ⟨#[]⟩ [.mk 1 8 ⟨#[]⟩ ⟨#[]⟩ []] [] []]]⟩
theorem z3s:znb z3d=some z0m:=by kernel_rfl
theorem z0n:z0m.err=0:=by kernel_rfl
theorem z3t:znb z0t=some zga:=by kernel_rfl
theorem znt {s:ByteArray} {ts:List Tk} {m:Mo} (h:lexT s=ts/\lexE s=0) (hp:znb ts=some m) (he:m.err=0):zdq s=some m:=by
 unfold zdq;rw [if_pos h.2,h.1,hp];exact if_pos he
theorem zya {s:ByteArray} {ts:List Tk} (h:lexT s=ts/\lexE s=0) (hp:znb ts=none):zdq s=none/\parsE s=1:=by
 have hr:zdq s=none:=by
  unfold zdq;rw [if_pos h.2,h.1,hp]
 refine ⟨hr,?_⟩;unfold parsE;rw [if_pos h.2,hr]
theorem zr6:zdq cntS=some zga:=znt zx7 z3t zns
theorem zr7:zdq z0i=some z0m:=znt zx8 z3s z0n
theorem zr8:zdq z0k=none/\parsE z0k=1:=zya zx9 z3r
theorem zyx:tM zga=z0t:=by kernel_rfl
theorem znu:shoE zga=0:=by
 unfold shoE;rw [if_pos zns,zyx]
 rfl
theorem zwh:checkN (tM zga)=0:=by
 have h:=zin (m:=zga) (ts:=tM zga) zns (Or.inl (List.nil_append _).symm);rw [h.1,znu]
theorem zwi:showL z0t=cntS.data.toList:=by
 have h1:Lib.decDigits 1=[49]:=by rw [Lx.dec_small _ (by omega)];rfl
 have h3:Lib.decDigits 3=[51]:=by rw [Lx.dec_small _ (by omega)];rfl
 have h4:Lib.decDigits 4=[52]:=by rw [Lx.dec_small _ (by omega)];rfl
 simp only [z0t,showL,List.flatMap_cons,List.flatMap_nil,zhb];simp [h1,h3,h4,cntS]
theorem zyb:shoS zga=cntS:=by
 unfold shoS;rw [if_pos znu];unfold showR;rw [if_pos zwh,zyx,zwi]
 rfl
end Go.Proofs.YtcekpobmbmnplaaGreatDoor

namespace Go.Proofs.YtcekpobmbmnplaaGreatDoor
set_option maxRecDepth 100000
set_option maxHeartbeats 1600000
open Go.RowKit
def allocsC (w:World):List (Array Value × TypeId)->World
 | []=>w
 | x :: r=>allocsC (w.alloc (.cells x.1 x.2)) r
theorem zgb:∀ (l:List (Array Value × TypeId)) (w:World),Below w.heap.size w (allocsC w l)
 | [],_=>Below.refl _ _
 | _ :: r,w=>zab (al1 w _) (zgb r _)
theorem zbf:∀ (w:World) (l:List (Array Value × TypeId)) (i:Nat) (cs:Array Value) (t:TypeId),l[i]? = some (cs,t)->Blk (allocsC w l) (w.heap.size+i) cs.toList
 | w,[],i,cs,t,h=>by simp at h
 | w,x :: r,0,cs,t,h=>by
   simp at h;subst h;exact (Blk.new w cs t).later (zgb r _)
 | w,x :: r,i+1,cs,t,h=>by
   have:=zbf (w.alloc (.cells x.1 x.2)) r i cs t (by simpa using h);rw [show w.heap.size+(i+1)=(w.alloc (.cells x.1 x.2)).heap.size+i from by simp;omega];exact this
theorem zee {w:World} {b n:Nat} {ds:List D} {cs:List Value} (h:Blk w b cs) (hd:zbn w Tt ds cs) (h1:n<=ds.length) (h2:ds.length<=1000):DAt w Tt (some ⟨b,0,none⟩) n ds:=
 ⟨h1,by omega,Or.inr ⟨b,0,cs,rfl,trivial,h.lt,fun j u hj=>by rw [Nat.zero_add];exact h.cell j u hj,hd⟩⟩
def cntObjs (n:Nat):List (Array Value × TypeId):=
 [(#[.string ⟨#[99,110,116]⟩,.slice none 0 0,.slice (some ⟨n+1,0,none⟩) 3 3,.slice (some ⟨n+13,0,none⟩) 1 1,.slice none 0 0],27),
  (#[.int .i64 1,.string ⟨#[107]⟩,.bool true,.int .i64 3,.int .i64 2,.string ⟨#[115,117,109]⟩,.bool true,.int .i64 0,.int .i64 3,.string ⟨#[116]⟩,.bool true,.int .i64 4],58),
  (#[.string ⟨#[110]⟩],9),
  (#[.string ⟨#[105]⟩],9),
  (#[.int .i64 3,.int .i64 0,.string ⟨#[]⟩,.string ⟨#[110]⟩,.slice none 0 0],76),
  (#[.int .i64 3,.int .i64 0,.string ⟨#[]⟩,.string ⟨#[105]⟩,.slice none 0 0],76),
  (#[.int .i64 3,.int .i64 0,.string ⟨#[]⟩,.string ⟨#[115,117,109]⟩,.slice none 0 0,.int .i64 3,.int .i64 0,.string ⟨#[]⟩,.string ⟨#[105]⟩,.slice none 0 0],76),
  (#[.int .i64 9,.int .i64 0,.string ⟨#[]⟩,.string ⟨#[]⟩,.slice (some ⟨n+6,0,none⟩) 2 2],76),
  (#[.int .i64 3,.int .i64 0,.string ⟨#[]⟩,.string ⟨#[105]⟩,.slice none 0 0,.int .i64 1,.int .i64 1,.string ⟨#[]⟩,.string ⟨#[]⟩,.slice none 0 0],76),
  (#[.int .i64 10,.int .i64 0,.string ⟨#[]⟩,.string ⟨#[]⟩,.slice (some ⟨n+8,0,none⟩) 2 2],76),
  (#[.int .i64 1,.string ⟨#[]⟩,.string ⟨#[115,117,109]⟩,.slice (some ⟨n+7,0,none⟩) 1 1,.slice none 0 0,.slice none 0 0,.int .i64 1,.string ⟨#[]⟩,.string ⟨#[105]⟩,.slice (some ⟨n+9,0,none⟩) 1 1,.slice none 0 0,.slice none 0 0],47),
  (#[.int .i64 3,.int .i64 0,.string ⟨#[]⟩,.string ⟨#[115,117,109]⟩,.slice none 0 0],76),
  (#[.int .i64 1,.string ⟨#[]⟩,.string ⟨#[105]⟩,.slice (some ⟨n+4,0,none⟩) 1 1,.slice none 0 0,.slice none 0 0,.int .i64 5,.string ⟨#[]⟩,.string ⟨#[]⟩,.slice (some ⟨n+5,0,none⟩) 1 1,.slice (some ⟨n+10,0,none⟩) 2 2,.slice none 0 0,.int .i64 6,.string ⟨#[]⟩,.string ⟨#[]⟩,.slice (some ⟨n+11,0,none⟩) 1 1,.slice none 0 0,.slice none 0 0],47),
  (#[.string ⟨#[100,111,119,110]⟩,.bool true,.slice (some ⟨n+2,0,none⟩) 1 1,.slice (some ⟨n+3,0,none⟩) 1 1,.slice (some ⟨n+12,0,none⟩) 3 3],60)]
def z0o:List St:=(zga.procs.map Pr.body).flatten
theorem z2m (w:World):MoAt (allocsC w (cntObjs w.heap.size)) Tt zga (.agg #[.string ⟨#[99,110,116]⟩,.slice none 0 0,.slice (some ⟨w.heap.size+1,0,none⟩) 3 3,.slice (some ⟨w.heap.size+13,0,none⟩) 1 1,.slice none 0 0]) none 0 (some ⟨w.heap.size+1,0,none⟩) 3 (some ⟨w.heap.size+13,0,none⟩) 1 none 0:=by
 have d1:DAt (allocsC w (cntObjs w.heap.size)) Tt (some ⟨w.heap.size+1,0,none⟩) 3 (zfk zga.decls):=by
  refine zee (zbf w _ 1 _ _ rfl) ?_ (by decide) (by decide);exact .cons (zha rfl) (.cons (ze7 (by decide)) (.cons (zqq) (.cons (zha rfl) (.cons (zha rfl) (.cons (ze7 (by decide)) (.cons (zqq) (.cons (zha rfl) (.cons (zha rfl) (.cons (ze7 (by decide)) (.cons (zqq) (.cons (zha rfl) (.nil))))))))))))
 have d2:DAt (allocsC w (cntObjs w.heap.size)) Tt (some ⟨w.heap.size+2,0,none⟩) 1 (zax [⟨#[110]⟩]):=by
  refine zee (zbf w _ 2 _ _ rfl) ?_ (by decide) (by decide);exact .cons (ze7 (by decide)) (.nil)
 have d3:DAt (allocsC w (cntObjs w.heap.size)) Tt (some ⟨w.heap.size+3,0,none⟩) 1 (zax [⟨#[105]⟩]):=by
  refine zee (zbf w _ 3 _ _ rfl) ?_ (by decide) (by decide);exact .cons (ze7 (by decide)) (.nil)
 have d4:DAt (allocsC w (cntObjs w.heap.size)) Tt (some ⟨w.heap.size+4,0,none⟩) 1 (zaw [.mk 3 0 ⟨#[]⟩ ⟨#[110]⟩ []]):=by
  refine zee (zbf w _ 4 _ _ rfl) ?_ (by decide) (by decide);exact .cons (zha rfl) (.cons (zha rfl) (.cons (ze7 (by decide)) (.cons (ze7 (by decide)) (.cons (zmi) (.nil)))))
 have d5:DAt (allocsC w (cntObjs w.heap.size)) Tt (some ⟨w.heap.size+5,0,none⟩) 1 (zaw [.mk 3 0 ⟨#[]⟩ ⟨#[105]⟩ []]):=by
  refine zee (zbf w _ 5 _ _ rfl) ?_ (by decide) (by decide);exact .cons (zha rfl) (.cons (zha rfl) (.cons (ze7 (by decide)) (.cons (ze7 (by decide)) (.cons (zmi) (.nil)))))
 have d6:DAt (allocsC w (cntObjs w.heap.size)) Tt (some ⟨w.heap.size+6,0,none⟩) 2 (zaw [.mk 3 0 ⟨#[]⟩ ⟨#[115,117,109]⟩ [],.mk 3 0 ⟨#[]⟩ ⟨#[105]⟩ []]):=by
  refine zee (zbf w _ 6 _ _ rfl) ?_ (by decide) (by decide);exact .cons (zha rfl) (.cons (zha rfl) (.cons (ze7 (by decide)) (.cons (ze7 (by decide)) (.cons (zmi) (.cons (zha rfl) (.cons (zha rfl) (.cons (ze7 (by decide)) (.cons (ze7 (by decide)) (.cons (zmi) (.nil))))))))))
 have d7:DAt (allocsC w (cntObjs w.heap.size)) Tt (some ⟨w.heap.size+7,0,none⟩) 1 (zaw [.mk 9 0 ⟨#[]⟩ ⟨#[]⟩ [.mk 3 0 ⟨#[]⟩ ⟨#[115,117,109]⟩ [],.mk 3 0 ⟨#[]⟩ ⟨#[105]⟩ []]]):=by
  refine zee (zbf w _ 7 _ _ rfl) ?_ (by decide) (by decide);exact .cons (zha rfl) (.cons (zha rfl) (.cons (ze7 (by decide)) (.cons (ze7 (by decide)) (.cons (d6.val) (.nil)))))
 have d8:DAt (allocsC w (cntObjs w.heap.size)) Tt (some ⟨w.heap.size+8,0,none⟩) 2 (zaw [.mk 3 0 ⟨#[]⟩ ⟨#[105]⟩ [],.mk 1 1 ⟨#[]⟩ ⟨#[]⟩ []]):=by
  refine zee (zbf w _ 8 _ _ rfl) ?_ (by decide) (by decide);exact .cons (zha rfl) (.cons (zha rfl) (.cons (ze7 (by decide)) (.cons (ze7 (by decide)) (.cons (zmi) (.cons (zha rfl) (.cons (zha rfl) (.cons (ze7 (by decide)) (.cons (ze7 (by decide)) (.cons (zmi) (.nil))))))))))
 have d9:DAt (allocsC w (cntObjs w.heap.size)) Tt (some ⟨w.heap.size+9,0,none⟩) 1 (zaw [.mk 10 0 ⟨#[]⟩ ⟨#[]⟩ [.mk 3 0 ⟨#[]⟩ ⟨#[105]⟩ [],.mk 1 1 ⟨#[]⟩ ⟨#[]⟩ []]]):=by
  refine zee (zbf w _ 9 _ _ rfl) ?_ (by decide) (by decide);exact .cons (zha rfl) (.cons (zha rfl) (.cons (ze7 (by decide)) (.cons (ze7 (by decide)) (.cons (d8.val) (.nil)))))
 have d10:DAt (allocsC w (cntObjs w.heap.size)) Tt (some ⟨w.heap.size+10,0,none⟩) 2 (za0 [.mk 1 ⟨#[]⟩ ⟨#[115,117,109]⟩ [.mk 9 0 ⟨#[]⟩ ⟨#[]⟩ [.mk 3 0 ⟨#[]⟩ ⟨#[115,117,109]⟩ [],.mk 3 0 ⟨#[]⟩ ⟨#[105]⟩ []]] [] [],.mk 1 ⟨#[]⟩ ⟨#[105]⟩ [.mk 10 0 ⟨#[]⟩ ⟨#[]⟩ [.mk 3 0 ⟨#[]⟩ ⟨#[105]⟩ [],.mk 1 1 ⟨#[]⟩ ⟨#[]⟩ []]] [] []]):=by
  refine zee (zbf w _ 10 _ _ rfl) ?_ (by decide) (by decide);exact .cons (zha rfl) (.cons (ze7 (by decide)) (.cons (ze7 (by decide)) (.cons (d7.val) (.cons (zmi) (.cons (zmi) (.cons (zha rfl) (.cons (ze7 (by decide)) (.cons (ze7 (by decide)) (.cons (d9.val) (.cons (zmi) (.cons (zmi) (.nil))))))))))))
 have d11:DAt (allocsC w (cntObjs w.heap.size)) Tt (some ⟨w.heap.size+11,0,none⟩) 1 (zaw [.mk 3 0 ⟨#[]⟩ ⟨#[115,117,109]⟩ []]):=by
  refine zee (zbf w _ 11 _ _ rfl) ?_ (by decide) (by decide);exact .cons (zha rfl) (.cons (zha rfl) (.cons (ze7 (by decide)) (.cons (ze7 (by decide)) (.cons (zmi) (.nil)))))
 have d12:DAt (allocsC w (cntObjs w.heap.size)) Tt (some ⟨w.heap.size+12,0,none⟩) 3 (za0 z0o):=by
  refine zee (zbf w _ 12 _ _ rfl) ?_ (by decide) (by decide);exact .cons (zha rfl) (.cons (ze7 (by decide)) (.cons (ze7 (by decide)) (.cons (d4.val) (.cons (zmi) (.cons (zmi) (.cons (zha rfl) (.cons (ze7 (by decide)) (.cons (ze7 (by decide)) (.cons (d5.val) (.cons (d10.val) (.cons (zmi) (.cons (zha rfl) (.cons (ze7 (by decide)) (.cons (ze7 (by decide)) (.cons (d11.val) (.cons (zmi) (.cons (zmi) (.nil))))))))))))))))))
 have d13:DAt (allocsC w (cntObjs w.heap.size)) Tt (some ⟨w.heap.size+13,0,none⟩) 1 (zf9 zga.procs):=by
  refine zee (zbf w _ 13 _ _ rfl) ?_ (by decide) (by decide);exact .cons (ze7 (by decide)) (.cons (zqq) (.cons (d2.val) (.cons (d3.val) (.cons (d12.val) (.nil)))))
 exact ⟨rfl,by decide,⟨Nat.le_refl _,by decide,Or.inl rfl⟩,d1,d13,⟨Nat.le_refl _,by decide,Or.inl rfl⟩⟩
theorem zhv (w:World) :
 Calls Tryz.prog 15 #[] w fun e w'=>∃ v a1 c1 a2 c2 a3 c3 a4 c4,e = .returned v/\MoAt w' Tt zga v a1 c1 a2 c2 a3 c3 a4 c4/\Below w.heap.size w w':=by
 have HM:=hid (z2m w);go_enter Tryz.func15,Tryz.ntmps15;go_wp2_with fail;show bodyPost _ _ _ _ _ (allocsC w (cntObjs w.heap.size));obtain ⟨h0,h1,h2,h3,h4,hlt⟩:=(zbf w (cntObjs w.heap.size) 0 _ _ rfl).c5;rw [Nat.add_zero] at h0 h1 h2 h3 h4 hlt;have HB:=zgb (cntObjs w.heap.size) w;have HM:=HM.out;generalize allocsC w (cntObjs w.heap.size)=W at *;exact bodyPost_ret (v:=.agg #[.string ⟨#[99,110,116]⟩,.slice none 0 0,.slice (some ⟨w.heap.size+1,0,none⟩) 3 3,.slice (some ⟨w.heap.size+13,0,none⟩) 1 1,.slice none 0 0]) (by simp [results,Tryz.results15,go_sem,h0,h1,h2,h3,h4]) rfl ⟨_,_,_,_,_,_,_,_,_,rfl,HM,HB⟩
theorem zqx (w:World):Calls Tryz.prog 16 #[] w fun e w'=>e = .returned (.string z0i)/\w'=w:=by
 go_enter Tryz.func16,Tryz.ntmps16;go_wp2_with fail;go_ret;exact ⟨rfl,rfl⟩
theorem znv (w:World):Calls Tryz.prog 17 #[] w fun e w'=>e = .returned (.string cntS)/\w'=w:=by
 go_enter Tryz.func17,Tryz.ntmps17;go_wp2_with fail;go_ret;exact ⟨rfl,rfl⟩
end Go.Proofs.YtcekpobmbmnplaaGreatDoor
