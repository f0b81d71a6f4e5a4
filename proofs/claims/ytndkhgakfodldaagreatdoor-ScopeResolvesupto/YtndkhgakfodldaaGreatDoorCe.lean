import Derived.Test.YtndkhgakfodldaaGreatDoorCb
namespace Go.Proofs.YtndkhgakfodldaaGreatDoor
set_option maxRecDepth 100000
set_option maxHeartbeats 3200000
open Go.RowKit Go.Maps
abbrev mC (m:Mo) (a:OA) (b:Nat) (c:OA) (e:Nat) (f:OA) (g:Nat) (h:OA) (i:Nat):Obj:=.cells #[.string m.name,.slice a m.uses.length b,.slice c m.decls.length e,.slice f m.procs.length g,.slice h m.main.length i] 27
theorem hid {q:Prop} (h:q):Hid q:=h
theorem zcu {w:World} {a:OA} {l:List Pr} (h:DAt w Tt a l.length (zhj l)):l.length<=3518437208883:=by
 have h1:=h.2.1
 have h2:(zhj l).length=l.length*5:=by
  unfold zhj;rw [List.length_flatMap]
  have:∀ l:List Pr,(l.map (fun x=>x.ds.length)).sum=l.length*5:=by
   intro l
   induction l with
   | nil=>rfl
   | cons x r ih=>rw [vbq,List.sum_cons,ih,vax];have:x.ds.length=5:=rfl;omega
  exact this _
 omega
theorem znk
 (be bs:Nat) (m:Mo) (v:Value) (a1:OA) (c1:Nat) (a2:OA) (c2:Nat) (a3:OA) (c3:Nat) (a4:OA) (c4:Nat) (w:World) (hM:MoAt w Tt m v a1 c1 a2 c2 a3 c3 a4 c4) (hS:zc8 w be 15 zhm) (hT:zc8 w bs 7 zi5) :
 Calls Tryz.prog 152 #[.agg #[.map (some be),.map (some bs)],v] w fun e w'=>e = .returned (.bool m.kinds)/\Below w.heap.size w w':=by
 have HR:Hid (m.kinds=(m.decls.all (fun d:De=>decide (1<=d.kind)&&decide (d.kind<=3))&&m.bodies.all (zal 6))):=rfl;obtain rfl:=hM.val;have hn1:=hM.uses.bound;have hn2:=hM.decls.bound;have HP:Hid (m.procs.length<=3518437208883):=zcu hM.procs;have hn3:=HP.out;have HM:Hid (MoAt w Tt m (.agg #[.string m.name,.slice a1 m.uses.length c1,.slice a2 m.decls.length c2,.slice a3 m.procs.length c3,.slice a4 m.main.length c4]) a1 c1 a2 c2 a3 c3 a4 c4):=hM;have HS:Hid (zc8 w be 15 zhm):=hS;have HU:Hid (zc8 w bs 7 zi5):=hT;clear hM hS hT;have HB0:Hid (Blk ((w.alloc (.cells #[.map (some be),.map (some bs)] 235)).alloc (mC m a1 c1 a2 c2 a3 c3 a4 c4)) w.heap.size [.map (some be),.map (some bs)]):=Blk.new1 w _ _ _;have HB1:Hid (Blk ((w.alloc (.cells #[.map (some be),.map (some bs)] 235)).alloc (mC m a1 c1 a2 c2 a3 c3 a4 c4)) (w.heap.size+1) [.string m.name,.slice a1 m.uses.length c1,.slice a2 m.decls.length c2,.slice a3 m.procs.length c3,.slice a4 m.main.length c4]):=Blk.new2 w _ _ _
 go_enter Tryz.func152,Tryz.ntmps152;go_wp2_with fail
 go_loopw [12] (fun i wr=>∃ j:Nat,j<=m.decls.length/\i = .int .i64 j/\(m.decls.take j).all (fun d:De=>decide (1<=d.kind)&&decide (d.kind<=3))=true/\Below w.heap.size w wr/\Blk wr w.heap.size [.map (some be),.map (some bs)]/\Blk wr (w.heap.size+1) [.string m.name,.slice a1 m.uses.length c1,.slice a2 m.decls.length c2,.slice a3 m.procs.length c3,.slice a4 m.main.length c4]) (fun i _=>m.decls.length - (intOf i).toNat)
 case atStart=>exact ⟨0,vad _,rfl,rfl,al2 _ _ _,HB0.out,HB1.out⟩
 case round=>
  clear HB0 HB1;obtain ⟨j,hj,rfl,hall,hb,hB0,hB1⟩:=hrel;have HA:Hid ((m.decls.take j).all (fun d:De=>decide (1<=d.kind)&&decide (d.kind<=3))=true):=hall;obtain ⟨q0,q1,qz⟩:=hB0.c2;obtain ⟨m0,m1,m2,m3,m4,mz⟩:=hB1.c5;have HB0:Hid (Blk wr w.heap.size [.map (some be),.map (some bs)]):=hB0;have HB1:=hid hB1;clear hall hB0 hB1
  by_cases hlt:j<m.decls.length
  . obtain ⟨b,off,rfl,hx⟩:=(HM.out.decls.later hb).de j hlt
    have hc0:=hx.c0;have hc1:=hx.c1;have hc2:=hx.c2;have hc3:=hx.c3;have hlb:=hx.lt;clear hx
    by_cases hk:1<=m.decls[j].kind/\m.decls[j].kind<=3
    . obtain ⟨hk1,hk3⟩:=hk
      have HT:Hid ((m.decls.take (j+1)).all (fun d:De=>decide (1<=d.kind)&&decide (d.kind<=3))=true):=by
       show _=_
       rw [all_snoc m.decls _ j hlt,HA.out];simp [hk1,hk3]
      go_wp2_with fail;go_roundw
      case rel=>exact ⟨j+1,by omega,by go_num,HT.out,thenB hb (al1 _ _),HB0.out.later (al1 _ _),HB1.out.later (al1 _ _)⟩
      case measure=>simp [intOf];omega
    . have HF:Hid (m.decls.all (fun d:De=>decide (1<=d.kind)&&decide (d.kind<=3))=false):=all_not m.decls _ j hlt (by simp;omega)
      by_cases hk1:m.decls[j].kind<1
      . clear hk
        go_wp2_with fail;go_ret;exact ⟨zab (by rw [HR.out,HF.out];rfl),thenB hb (al1 _ _)⟩
      . have hk3:3<m.decls[j].kind:=by omega
        clear hk;go_wp2_with fail;go_ret;exact ⟨zab (by rw [HR.out,HF.out];rfl),thenB hb (al1 _ _)⟩
  . have HT1:Hid (m.decls.all (fun d:De=>decide (1<=d.kind)&&decide (d.kind<=3))=true):=zej HA.out hlt
    go_wp2_with fail;refine (zhy m _ a1 c1 a2 c2 a3 c3 a4 c4 _ (HM.out.later hb)).mono ?_;rintro e w5 ⟨ba,bc,rfl,hBA,hb5⟩;have HBA:Hid (znj w5 ba m.bodies):=hBA
    have hbn:m.bodies.length<=4000000000000:=by have:=HP.out;simp [Mo.bodies];omega
    have k0:=HB0.out.later hb5;have k1:=HB1.out.later hb5;have hb6:=thenB hb hb5;clear hb5 hBA HB0 HB1;clear q0 q1 qz m0 m1 m2 m3 m4 mz;have HB0:Hid (Blk w5 w.heap.size [.map (some be),.map (some bs)]):=k0;have HB1:=hid k1;have Hb6:Hid (Below w.heap.size w w5):=hb6;clear k0 k1 hb6;go_wp2_with fail
    go_loopw [28] (fun i wr=>∃ j:Nat,j<=m.bodies.length/\i = .int .i64 j/\(m.bodies.take j).all (zal 6)=true/\Below w5.heap.size w5 wr/\Blk wr w.heap.size [.map (some be),.map (some bs)]/\Blk wr (w.heap.size+1) [.string m.name,.slice a1 m.uses.length c1,.slice a2 m.decls.length c2,.slice a3 m.procs.length c3,.slice a4 m.main.length c4]) (fun i _=>m.bodies.length - (intOf i).toNat)
    case atStart=>exact ⟨0,vad _,rfl,rfl,Below.refl _ _,HB0.out,HB1.out⟩
    case round=>
     clear HB0 HB1;obtain ⟨j,hj,rfl,hall,hb7,hB0,hB1⟩:=hrel;have HA:Hid ((m.bodies.take j).all (zal 6)=true):=hall;obtain ⟨q0,q1,qz⟩:=hB0.c2;obtain ⟨m0,m1,m2,m3,m4,mz⟩:=hB1.c5;have HB0:Hid (Blk wr w.heap.size [.map (some be),.map (some bs)]):=hB0;have HB1:=hid hB1;clear hall hB0 hB1
     by_cases hlt:j<m.bodies.length
     . obtain ⟨b,off,aa,cp,rfl,hlb,hc,hx⟩:=(HBA.out.later hb7) j hlt
       have HX:Hid (DAt wr Tt aa m.bodies[j].length (za2 m.bodies[j])):=hx;clear hx;go_wp2_with fail;refine (zjb be bs Tt 6 (by omega) m.bodies[j] aa cp 1 _ (by omega) HX.out ((HS.out.later Hb6.out).later hb7) ((HU.out.later Hb6.out).later hb7)).mono ?_
       cases h1:zal 6 m.bodies[j] with
       | false=>
         have HF:Hid (m.bodies.all (zal 6)=false):=all_not m.bodies _ j hlt h1;rintro e w8 ⟨rfl,hb8⟩;go_wp2_with fail;go_ret;exact ⟨zab (by rw [HR.out,HF.out];simp),thenB Hb6.out (thenB hb7 hb8)⟩
       | true=>
         have HT:Hid ((m.bodies.take (j+1)).all (zal 6)=true):=by
          show _=_
          rw [all_snoc m.bodies _ j hlt,HA.out,h1];rfl
         rintro e w8 ⟨rfl,hb8⟩;have k0:=HB0.out.later hb8;have k1:=HB1.out.later hb8;go_wp2_with fail;go_roundw
         case rel=>exact ⟨j+1,by omega,by go_num,HT.out,thenB hb7 hb8,k0,k1⟩
         case measure=>simp [intOf];omega
     . have HT:Hid (m.bodies.all (zal 6)=true):=zej HA.out hlt
       go_wp2_with fail;go_ret;exact ⟨zab (by rw [HR.out,HT.out];simp [HT1.out]),thenB Hb6.out hb7⟩
theorem zkq
 (be bs:Nat) (m:Mo) (v:Value) (a1:OA) (c1:Nat) (a2:OA) (c2:Nat) (a3:OA) (c3:Nat) (a4:OA) (c4:Nat) (w:World) (hM:MoAt w Tt m v a1 c1 a2 c2 a3 c3 a4 c4) (hS:zc8 w be 15 zhm) (hT:zc8 w bs 7 zi5) :
 Calls Tryz.prog 153 #[.agg #[.map (some be),.map (some bs)],v] w fun e w'=>e = .returned (.bool m.many)/\Below w.heap.size w w':=by
 by_cases hu:3<m.uses.length
 . have HT:Hid (m.many=true):=by show _=_;simp [Mo.many,hu]
   obtain rfl:=hM.val;have hn1:=hM.uses.bound;clear hM hS hT;go_enter Tryz.func153,Tryz.ntmps153;go_wp2_with fail;go_ret;exact ⟨zab HT.out.symm,al2 _ _ _⟩
 by_cases hd:10<m.decls.length
 . have HT:Hid (m.many=true):=by show _=_;simp [Mo.many,hd]
   obtain rfl:=hM.val;have hn1:=hM.uses.bound;have hn2:=hM.decls.bound;clear hM hS hT;go_enter Tryz.func153,Tryz.ntmps153;go_wp2_with fail;go_ret;exact ⟨zab HT.out.symm,al2 _ _ _⟩
 by_cases hp:6<m.procs.length
 . have HT:Hid (m.many=true):=by show _=_;simp [Mo.many,hp]
   obtain rfl:=hM.val;have hn1:=hM.uses.bound;have hn2:=hM.decls.bound;have hn3:=zcu hM.procs;clear hM hS hT;go_enter Tryz.func153,Tryz.ntmps153;go_wp2_with fail;go_ret;exact ⟨zab HT.out.symm,al2 _ _ _⟩
 have hR:m.many=(m.procs.any (fun p:Pr=>decide (3<p.params.length)||decide (4<p.locals.length))||m.bodies.any (zag 6)):=by simp [Mo.many,hu,hd,hp]
 have HR:Hid (m.many=(m.procs.any (fun p:Pr=>decide (3<p.params.length)||decide (4<p.locals.length))||m.bodies.any (zag 6))):=hR;clear hR;obtain rfl:=hM.val;have hn1:=hM.uses.bound;have hn2:=hM.decls.bound;have HP:Hid (m.procs.length<=3518437208883):=zcu hM.procs;have hn3:=HP.out;have HM:Hid (MoAt w Tt m (.agg #[.string m.name,.slice a1 m.uses.length c1,.slice a2 m.decls.length c2,.slice a3 m.procs.length c3,.slice a4 m.main.length c4]) a1 c1 a2 c2 a3 c3 a4 c4):=hM;have HS:Hid (zc8 w be 15 zhm):=hS;have HU:Hid (zc8 w bs 7 zi5):=hT;clear hM hS hT;have HB0:Hid (Blk ((w.alloc (.cells #[.map (some be),.map (some bs)] 235)).alloc (mC m a1 c1 a2 c2 a3 c3 a4 c4)) w.heap.size [.map (some be),.map (some bs)]):=Blk.new1 w _ _ _;have HB1:Hid (Blk ((w.alloc (.cells #[.map (some be),.map (some bs)] 235)).alloc (mC m a1 c1 a2 c2 a3 c3 a4 c4)) (w.heap.size+1) [.string m.name,.slice a1 m.uses.length c1,.slice a2 m.decls.length c2,.slice a3 m.procs.length c3,.slice a4 m.main.length c4]):=Blk.new2 w _ _ _
 go_enter Tryz.func153,Tryz.ntmps153;go_wp2_with fail
 go_loopw [28] (fun i wr=>∃ j:Nat,j<=m.procs.length/\i = .int .i64 j/\(m.procs.take j).any (fun p:Pr=>decide (3<p.params.length)||decide (4<p.locals.length))=false/\Below w.heap.size w wr/\Blk wr w.heap.size [.map (some be),.map (some bs)]/\Blk wr (w.heap.size+1) [.string m.name,.slice a1 m.uses.length c1,.slice a2 m.decls.length c2,.slice a3 m.procs.length c3,.slice a4 m.main.length c4]) (fun i _=>m.procs.length - (intOf i).toNat)
 case atStart=>exact ⟨0,vad _,rfl,rfl,al2 _ _ _,HB0.out,HB1.out⟩
 case round=>
  clear HB0 HB1;obtain ⟨j,hj,rfl,hall,hb,hB0,hB1⟩:=hrel;have HA:Hid ((m.procs.take j).any (fun p:Pr=>decide (3<p.params.length)||decide (4<p.locals.length))=false):=hall;obtain ⟨q0,q1,qz⟩:=hB0.c2;obtain ⟨m0,m1,m2,m3,m4,mz⟩:=hB1.c5;have HB0:Hid (Blk wr w.heap.size [.map (some be),.map (some bs)]):=hB0;have HB1:=hid hB1;clear hall hB0 hB1
  by_cases hlt:j<m.procs.length
  . obtain ⟨b,off,b1,d1,b2,d2,b3,d3,rfl,hx⟩:=(HM.out.procs.later hb).pr j hlt
    have hc0:=hx.c0;have hc1:=hx.c1;have hc2:=hx.c2;have hc3:=hx.c3;have hc4:=hx.c4;have hlb:=hx.lt;have e1:=hx.params.bound;have e2:=hx.locals.bound;clear hx
    by_cases hk:m.procs[j].params.length<=3/\m.procs[j].locals.length<=4
    . obtain ⟨hk1,hk3⟩:=hk
      have HT:Hid ((m.procs.take (j+1)).any (fun p:Pr=>decide (3<p.params.length)||decide (4<p.locals.length))=false):=by
       show _=_
       rw [zat m.procs _ j hlt,HA.out];simp;omega
      go_wp2_with fail;go_roundw
      case rel=>exact ⟨j+1,by omega,by go_num,HT.out,thenB hb (al1 _ _),HB0.out.later (al1 _ _),HB1.out.later (al1 _ _)⟩
      case measure=>simp [intOf];omega
    . have HF:Hid (m.procs.any (fun p:Pr=>decide (3<p.params.length)||decide (4<p.locals.length))=true):=zbj m.procs _ j hlt (by simp;omega)
      by_cases hk1:3<m.procs[j].params.length
      . clear hk
        go_wp2_with fail;go_ret;exact ⟨zab (by rw [HR.out,HF.out];rfl),thenB hb (al1 _ _)⟩
      . have hk3:4<m.procs[j].locals.length:=by omega
        clear hk;go_wp2_with fail;go_ret;exact ⟨zab (by rw [HR.out,HF.out];rfl),thenB hb (al1 _ _)⟩
  . have HT1:Hid (m.procs.any (fun p:Pr=>decide (3<p.params.length)||decide (4<p.locals.length))=false):=zbh HA.out hlt
    go_wp2_with fail;refine (zhy m _ a1 c1 a2 c2 a3 c3 a4 c4 _ (HM.out.later hb)).mono ?_;rintro e w5 ⟨ba,bc,rfl,hBA,hb5⟩;have HBA:Hid (znj w5 ba m.bodies):=hBA
    have hbn:m.bodies.length<=4000000000000:=by have:=HP.out;simp [Mo.bodies];omega
    have k0:=HB0.out.later hb5;have k1:=HB1.out.later hb5;have hb6:=thenB hb hb5;clear hb5 hBA HB0 HB1;clear q0 q1 qz m0 m1 m2 m3 m4 mz;have HB0:Hid (Blk w5 w.heap.size [.map (some be),.map (some bs)]):=k0;have HB1:=hid k1;have Hb6:Hid (Below w.heap.size w w5):=hb6;clear k0 k1 hb6;go_wp2_with fail
    go_loopw [46] (fun i wr=>∃ j:Nat,j<=m.bodies.length/\i = .int .i64 j/\(m.bodies.take j).any (zag 6)=false/\Below w5.heap.size w5 wr/\Blk wr w.heap.size [.map (some be),.map (some bs)]/\Blk wr (w.heap.size+1) [.string m.name,.slice a1 m.uses.length c1,.slice a2 m.decls.length c2,.slice a3 m.procs.length c3,.slice a4 m.main.length c4]) (fun i _=>m.bodies.length - (intOf i).toNat)
    case atStart=>exact ⟨0,vad _,rfl,rfl,Below.refl _ _,HB0.out,HB1.out⟩
    case round=>
     clear HB0 HB1;obtain ⟨j,hj,rfl,hall,hb7,hB0,hB1⟩:=hrel;have HA:Hid ((m.bodies.take j).any (zag 6)=false):=hall;obtain ⟨q0,q1,qz⟩:=hB0.c2;obtain ⟨m0,m1,m2,m3,m4,mz⟩:=hB1.c5;have HB0:Hid (Blk wr w.heap.size [.map (some be),.map (some bs)]):=hB0;have HB1:=hid hB1;clear hall hB0 hB1
     by_cases hlt:j<m.bodies.length
     . obtain ⟨b,off,aa,cp,rfl,hlb,hc,hx⟩:=(HBA.out.later hb7) j hlt
       have HX:Hid (DAt wr Tt aa m.bodies[j].length (za2 m.bodies[j])):=hx;clear hx;go_wp2_with fail;refine (zk5 be bs Tt 6 (by omega) m.bodies[j] aa cp 1 _ (by omega) HX.out ((HS.out.later Hb6.out).later hb7) ((HU.out.later Hb6.out).later hb7)).mono ?_
       cases h1:zag 6 m.bodies[j] with
       | true=>
         have HF:Hid (m.bodies.any (zag 6)=true):=zbj m.bodies _ j hlt h1;rintro e w8 ⟨rfl,hb8⟩;go_wp2_with fail;go_ret;exact ⟨zab (by rw [HR.out,HF.out];simp),thenB Hb6.out (thenB hb7 hb8)⟩
       | false=>
         have HT:Hid ((m.bodies.take (j+1)).any (zag 6)=false):=by
          show _=_
          rw [zat m.bodies _ j hlt,HA.out,h1];rfl
         rintro e w8 ⟨rfl,hb8⟩;have k0:=HB0.out.later hb8;have k1:=HB1.out.later hb8;go_wp2_with fail;go_roundw
         case rel=>exact ⟨j+1,by omega,by go_num,HT.out,thenB hb7 hb8,k0,k1⟩
         case measure=>simp [intOf];omega
     . have HT:Hid (m.bodies.any (zag 6)=false):=zbh HA.out hlt
       go_wp2_with fail;go_ret;exact ⟨zab (by rw [HR.out,HT.out];simp [HT1.out]),thenB Hb6.out hb7⟩
theorem zo1
 (be bs:Nat) (m:Mo) (v:Value) (a1:OA) (c1:Nat) (a2:OA) (c2:Nat) (a3:OA) (c3:Nat) (a4:OA) (c4:Nat) (w:World) (hM:MoAt w Tt m v a1 c1 a2 c2 a3 c3 a4 c4) (hS:zc8 w be 15 zhm) (hT:zc8 w bs 7 zi5) (hY:m.many=false) :
 Calls Tryz.prog 154 #[.agg #[.map (some be),.map (some bs)],v] w fun e w'=>e = .returned (.bool m.form)/\Below w.heap.size w w':=by
 have HY:Hid (∀ j (h:j<m.bodies.length),zag 6 m.bodies[j]=false):=fun j h=>by
  simp only [Mo.many,vap,vau] at hY;simpa using hY.2.2.2.2 m.bodies[j] (vah h)
 clear hY;have HR:Hid (m.form=(nameOk m.name&&(m.uses.all nameOk&&(m.decls.all (fun d:De=>nameOk d.name&&zcf d)&&(m.procs.all (fun p:Pr=>nameOk p.name&&(p.params.all nameOk&&p.locals.all nameOk))&&m.bodies.all (zaj 6)))))):=rfl;obtain rfl:=hM.val;have hn1:=hM.uses.bound;have hn2:=hM.decls.bound;have HP:Hid (m.procs.length<=3518437208883):=zcu hM.procs;have hn3:=HP.out;have HM:Hid (MoAt w Tt m (.agg #[.string m.name,.slice a1 m.uses.length c1,.slice a2 m.decls.length c2,.slice a3 m.procs.length c3,.slice a4 m.main.length c4]) a1 c1 a2 c2 a3 c3 a4 c4):=hM;have HS:Hid (zc8 w be 15 zhm):=hS;have HU:Hid (zc8 w bs 7 zi5):=hT;clear hM hS hT;have HB0:Hid (Blk ((w.alloc (.cells #[.map (some be),.map (some bs)] 235)).alloc (mC m a1 c1 a2 c2 a3 c3 a4 c4)) w.heap.size [.map (some be),.map (some bs)]):=Blk.new1 w _ _ _
 have HB1:Hid (Blk ((w.alloc (.cells #[.map (some be),.map (some bs)] 235)).alloc (mC m a1 c1 a2 c2 a3 c3 a4 c4)) (w.heap.size+1) [.string m.name,.slice a1 m.uses.length c1,.slice a2 m.decls.length c2,.slice a3 m.procs.length c3,.slice a4 m.main.length c4]):=Blk.new2 w _ _ _;go_enter Tryz.func154,Tryz.ntmps154;go_wp2_with fail;refine (zdw m.name _ HM.out.wna).mono ?_
 cases hnm:nameOk m.name with
 | false=>
   rintro e w1 ⟨rfl,g1⟩;go_wp2_with fail;go_ret;exact ⟨zab (by rw [HR.out,hnm];rfl),thenB (al2 _ _ _) g1⟩
 | true=>
 rintro e w1 ⟨rfl,g1⟩;have k0:=HB0.out.later g1;have k1:=HB1.out.later g1;have g2:Below w.heap.size w w1:=thenB (al2 _ _ _) g1;clear HB0 HB1 g1;obtain ⟨m0,m1,m2,m3,m4,mz⟩:=k1.c5;have HB0:Hid (Blk w1 w.heap.size [.map (some be),.map (some bs)]):=k0;have HB1:=hid k1;clear k0 k1;go_wp2_with fail;refine (zff m.uses a1 c1 _ (HM.out.uses.later g2)).mono ?_
 cases hus:m.uses.all nameOk with
 | false=>
   rintro e w2 ⟨rfl,g1⟩;go_wp2_with fail;go_ret;exact ⟨zab (by rw [HR.out,hnm,hus];rfl),thenB g2 g1⟩
 | true=>
 rintro e w2 ⟨rfl,g1⟩;have k0:=HB0.out.later g1;have k1:=HB1.out.later g1;have g3:=thenB g2 g1;clear HB0 HB1 g1 g2 m0 m1 m2 m3 m4 mz;obtain ⟨m0,m1,m2,m3,m4,mz⟩:=k1.c5;have HB0:Hid (Blk w2 w.heap.size [.map (some be),.map (some bs)]):=k0;have HB1:=hid k1;clear k0 k1;go_wp2_with fail;clear m0 m1 m2 m3 m4 mz
 go_loopw [24] (fun i wr=>∃ j:Nat,j<=m.decls.length/\i = .int .i64 j/\(m.decls.take j).all (fun d:De=>nameOk d.name&&zcf d)=true/\Below w.heap.size w wr/\Blk wr w.heap.size [.map (some be),.map (some bs)]/\Blk wr (w.heap.size+1) [.string m.name,.slice a1 m.uses.length c1,.slice a2 m.decls.length c2,.slice a3 m.procs.length c3,.slice a4 m.main.length c4]) (fun i _=>m.decls.length - (intOf i).toNat)
 case atStart=>exact ⟨0,vad _,rfl,rfl,g3,HB0.out,HB1.out⟩
 case round =>
  clear g3;clear HB0 HB1;obtain ⟨j,hj,rfl,hall,hb,hB0,hB1⟩:=hrel;have HA:Hid ((m.decls.take j).all (fun d:De=>nameOk d.name&&zcf d)=true):=hall;obtain ⟨q0,q1,qz⟩:=hB0.c2;obtain ⟨m0,m1,m2,m3,m4,mz⟩:=hB1.c5;have HB0:Hid (Blk wr w.heap.size [.map (some be),.map (some bs)]):=hB0;have HB1:=hid hB1;clear hall hB0 hB1
  by_cases hlt:j<m.decls.length
  . obtain ⟨b,off,rfl,hx⟩:=(HM.out.decls.later hb).de j hlt
    have hc0:=hx.c0;have hc1:=hx.c1;have hc2:=hx.c2;have hc3:=hx.c3;have hlb:=hx.lt
    have HF:Hid ((nameOk m.decls[j].name&&zcf m.decls[j])=false->m.form=false):=fun h=>by rw [HR.out,all_not m.decls (fun d:De=>nameOk d.name&&zcf d) j hlt h];simp
    have hna:=hx.wna;clear hx;go_wp2_with fail;refine (zdw m.decls[j].name _ hna).mono ?_
    cases h1:nameOk m.decls[j].name with
    | false=>
      rintro e w3 ⟨rfl,g1⟩;go_wp2_with fail;go_ret;exact ⟨zab (HF.out (by simp [h1])).symm,zzf hb g1⟩
    | true=>
      rintro e w3 ⟨rfl,g1⟩;have kd:=(Blk.new wr #[.int .i64 m.decls[j].kind,.string m.decls[j].name,.bool m.decls[j].pub,.int .i64 m.decls[j].n] 170).later g1;have z0:=kd.cell 0 _ rfl;have z1:=kd.cell 1 _ rfl;have z2:=kd.cell 2 _ rfl;have z3:=kd.cell 3 _ rfl;have zl:=kd.lt;have k0:=(HB0.out.later (al1 _ _)).later g1;have k1:=(HB1.out.later (al1 _ _)).later g1;have g2:=zzf hb g1;clear g1 kd HB0 HB1 q0 q1 qz m0 m1 m2 m3 m4 mz;have HB0:Hid (Blk w3 w.heap.size [.map (some be),.map (some bs)]):=k0;have HB1:=hid k1;clear k0 k1;go_wp2_with fail;refine (zm3 m.decls[j] _).mono ?_
      cases h2:zcf m.decls[j] with
      | false=>
        rintro e w4 ⟨rfl,g1⟩;go_wp2_with fail;go_ret;exact ⟨zab (HF.out (by simp [h2])).symm,thenB g2 g1⟩
      | true=>
        have HT:Hid ((m.decls.take (j+1)).all (fun d:De=>nameOk d.name&&zcf d)=true):=by
         show _=_
         rw [all_snoc m.decls _ j hlt,HA.out];simp [h1,h2]
        rintro e w4 ⟨rfl,g1⟩;have k0:=HB0.out.later g1;have k1:=HB1.out.later g1;have g3:=thenB g2 g1;clear g1 g2;go_wp2_with fail;go_roundw
        case rel=>exact ⟨j+1,by omega,by go_num,HT.out,g3,k0,k1⟩
        case measure=>simp [intOf];omega
  . have HT1 : Hid (m.decls.all (fun d:De=>nameOk d.name&&zcf d)=true):=zej HA.out hlt
    go_wp2_with fail;clear hlt hj HA;clear q0 q1 qz m0 m1 m2 m3 m4 mz
    go_loopw [41] (fun i wr=>∃ j:Nat,j<=m.procs.length/\i = .int .i64 j/\(m.procs.take j).all (fun p:Pr=>nameOk p.name&&(p.params.all nameOk&&p.locals.all nameOk))=true/\Below w.heap.size w wr/\Blk wr w.heap.size [.map (some be),.map (some bs)]/\Blk wr (w.heap.size+1) [.string m.name,.slice a1 m.uses.length c1,.slice a2 m.decls.length c2,.slice a3 m.procs.length c3,.slice a4 m.main.length c4]) (fun i _=>m.procs.length - (intOf i).toNat)
    case atStart=>exact ⟨0,vad _,rfl,rfl,hb,HB0.out,HB1.out⟩
    case round=>
     clear hb;clear HB0 HB1;obtain ⟨j,hj,rfl,hall,hb,hB0,hB1⟩:=hrel;have HA:Hid ((m.procs.take j).all (fun p:Pr=>nameOk p.name&&(p.params.all nameOk&&p.locals.all nameOk))=true):=hall;obtain ⟨q0,q1,qz⟩:=hB0.c2;obtain ⟨m0,m1,m2,m3,m4,mz⟩:=hB1.c5;have HB0:Hid (Blk wr w.heap.size [.map (some be),.map (some bs)]):=hB0;have HB1:=hid hB1;clear hall hB0 hB1
     by_cases hlt:j<m.procs.length
     . obtain ⟨b,off,b1,d1,b2,d2,b3,d3,rfl,hx⟩:=(HM.out.procs.later hb).pr j hlt
       have hc0:=hx.c0;have hc1:=hx.c1;have hc2:=hx.c2;have hc3:=hx.c3;have hc4:=hx.c4;have hlb:=hx.lt;have HX:Hid (PrAt wr Tt b (off+j*5) m.procs[j] b1 d1 b2 d2 b3 d3):=hx
       have HF:Hid ((nameOk m.procs[j].name&&(m.procs[j].params.all nameOk&&m.procs[j].locals.all nameOk))=false->m.form=false):=fun h=>by rw [HR.out,all_not m.procs (fun p:Pr=>nameOk p.name&&(p.params.all nameOk&&p.locals.all nameOk)) j hlt h];simp
       clear hx;go_wp2_with fail;refine (zdw m.procs[j].name _ HX.out.wna).mono ?_
       cases h1:nameOk m.procs[j].name with
       | false=>
         rintro e w3 ⟨rfl,g1⟩;go_wp2_with fail;go_ret;exact ⟨zab (HF.out (by simp [h1])).symm,zzf hb g1⟩
       | true =>
         rintro e w3 ⟨rfl,g1⟩;have kd:=(Blk.new wr #[.string m.procs[j].name,.bool m.procs[j].pub,.slice b1 m.procs[j].params.length d1,.slice b2 m.procs[j].locals.length d2,.slice b3 m.procs[j].body.length d3] 118).later g1;obtain ⟨z0,z1,z2,z3,z4,zl⟩:=kd.c5;have HK:Hid (Blk w3 wr.heap.size [.string m.procs[j].name,.bool m.procs[j].pub,.slice b1 m.procs[j].params.length d1,.slice b2 m.procs[j].locals.length d2,.slice b3 m.procs[j].body.length d3]):=kd;have k0:=(HB0.out.later (al1 _ _)).later g1;have k1:=(HB1.out.later (al1 _ _)).later g1;have g2:=thenB (al1 _ _) g1;clear g1 kd HB0 HB1 q0 q1 qz m0 m1 m2 m3 m4 mz;have HB0:Hid (Blk w3 w.heap.size [.map (some be),.map (some bs)]):=k0;have HB1:=hid k1;clear k0 k1;go_wp2_with fail;refine (zff m.procs[j].params b1 d1 _ (HX.out.params.later g2)).mono ?_
         cases h2:m.procs[j].params.all nameOk with
         | false=>
           rintro e w4 ⟨rfl,g1⟩;go_wp2_with fail;go_ret;exact ⟨zab (HF.out (by simp [h2])).symm,thenB hb (thenB g2 g1)⟩
         | true=>
           rintro e w4 ⟨rfl,g1⟩;have kd:=HK.out.later g1;clear z0 z1 z2 z3 z4 zl HK;obtain ⟨z0,z1,z2,z3,z4,zl⟩:=kd.c5;have k0:=HB0.out.later g1;have k1:=HB1.out.later g1;have g3:=thenB g2 g1;clear g1 g2 kd HB0 HB1;have HB0:Hid (Blk w4 w.heap.size [.map (some be),.map (some bs)]):=k0;have HB1:=hid k1;clear k0 k1;go_wp2_with fail;refine (zff m.procs[j].locals b2 d2 _ (HX.out.locals.later g3)).mono ?_
           cases h3:m.procs[j].locals.all nameOk with
           | false=>
             rintro e w5 ⟨rfl,g1⟩;go_wp2_with fail;go_ret;exact ⟨zab (HF.out (by simp [h3])).symm,thenB hb (thenB g3 g1)⟩
           | true=>
             have HT:Hid ((m.procs.take (j+1)).all (fun p:Pr=>nameOk p.name&&(p.params.all nameOk&&p.locals.all nameOk))=true):=by
              show _=_
              rw [all_snoc m.procs _ j hlt,HA.out];simp only [h1,h2,h3];rfl
             rintro e w5 ⟨rfl,g1⟩;have k0:=HB0.out.later g1;have k1:=HB1.out.later g1;have g4:=thenB hb (thenB g3 g1);clear g1 g3;go_wp2_with fail;go_roundw
             case rel=>exact ⟨j+1,by omega,by go_num,HT.out,g4,k0,k1⟩
             case measure=>simp [intOf];omega
     . have HT2:Hid (m.procs.all (fun p:Pr=>nameOk p.name&&(p.params.all nameOk&&p.locals.all nameOk))=true):=zej HA.out hlt
       go_wp2_with fail;refine (zhy m _ a1 c1 a2 c2 a3 c3 a4 c4 _ (HM.out.later hb)).mono ?_;rintro e w5 ⟨ba,bc,rfl,hBA,hb5⟩;have HBA:Hid (znj w5 ba m.bodies):=hBA
       have hbn:m.bodies.length<=4000000000000:=by have:=HP.out;simp [Mo.bodies];omega
       have k0:=HB0.out.later hb5;have k1:=HB1.out.later hb5;have hb6:=thenB hb hb5;clear hb5 hBA HB0 HB1;clear q0 q1 qz m0 m1 m2 m3 m4 mz;have HB0:Hid (Blk w5 w.heap.size [.map (some be),.map (some bs)]):=k0;have HB1:=hid k1;have Hb6:Hid (Below w.heap.size w w5):=hb6;clear k0 k1 hb6;go_wp2_with fail
       go_loopw [65] (fun i wr=>∃ j:Nat,j<=m.bodies.length/\i = .int .i64 j/\(m.bodies.take j).all (zaj 6)=true/\Below w5.heap.size w5 wr/\Blk wr w.heap.size [.map (some be),.map (some bs)]/\Blk wr (w.heap.size+1) [.string m.name,.slice a1 m.uses.length c1,.slice a2 m.decls.length c2,.slice a3 m.procs.length c3,.slice a4 m.main.length c4]) (fun i _=>m.bodies.length - (intOf i).toNat)
       case atStart=>exact ⟨0,vad _,rfl,rfl,Below.refl _ _,HB0.out,HB1.out⟩
       case round=>
        clear HB0 HB1;obtain ⟨j,hj,rfl,hall,hb7,hB0,hB1⟩:=hrel;have HA:Hid ((m.bodies.take j).all (zaj 6)=true):=hall;obtain ⟨q0,q1,qz⟩:=hB0.c2;obtain ⟨m0,m1,m2,m3,m4,mz⟩:=hB1.c5;have HB0:Hid (Blk wr w.heap.size [.map (some be),.map (some bs)]):=hB0;have HB1:=hid hB1;clear hall hB0 hB1
        by_cases hlt:j<m.bodies.length
        . obtain ⟨b,off,aa,cp,rfl,hlb,hc,hx⟩:=(HBA.out.later hb7) j hlt
          have HX:Hid (DAt wr Tt aa m.bodies[j].length (za2 m.bodies[j])):=hx;clear hx;go_wp2_with fail;refine (zr2 be bs Tt 6 m.bodies[j] aa cp _ HX.out ((HS.out.later Hb6.out).later hb7) ((HU.out.later Hb6.out).later hb7) (Or.inr (HY.out j hlt))).mono ?_
          cases h1:zaj 6 m.bodies[j] with
          | false=>
            have HF:Hid (m.bodies.all (zaj 6)=false):=all_not m.bodies _ j hlt h1;rintro e w8 ⟨rfl,hb8⟩;go_wp2_with fail;go_ret;exact ⟨zab (by rw [HR.out,HF.out];simp),thenB Hb6.out (thenB hb7 hb8)⟩
          | true=>
            have HT:Hid ((m.bodies.take (j+1)).all (zaj 6)=true):=by
             show _=_
             rw [all_snoc m.bodies _ j hlt,HA.out,h1];rfl
            rintro e w8 ⟨rfl,hb8⟩;have k0:=HB0.out.later hb8;have k1:=HB1.out.later hb8;go_wp2_with fail;go_roundw
            case rel=>exact ⟨j+1,by omega,by go_num,HT.out,thenB hb7 hb8,k0,k1⟩
            case measure=>simp [intOf];omega
        . have HT:Hid (m.bodies.all (zaj 6)=true):=zej HA.out hlt
          go_wp2_with fail;go_ret;exact ⟨zab (by rw [HR.out,HT.out];simp [hnm,hus,HT1.out,HT2.out]),thenB Hb6.out hb7⟩
theorem zwy {m:Mo} (h:m.kinds=false):m.err=4:=by unfold Mo.err;rw [h];rfl
theorem zwz {m:Mo} (h:m.kinds=true) (h1:m.many=true):m.err=2:=by unfold Mo.err;rw [h,h1];rfl
theorem zw0 {m:Mo} (h:m.kinds=true) (h1:m.many=false) (h2:m.form=false):m.err=1:=by unfold Mo.err;rw [h,h1,h2];rfl
theorem z0v {m:Mo} (h:m.kinds=true) (h1:m.many=false) (h2:m.form=true):m.err=0:=by unfold Mo.err;rw [h,h1,h2];rfl
theorem zk6 (m:Mo) (v:Value) (a1:OA) (c1:Nat) (a2:OA) (c2:Nat) (a3:OA) (c3:Nat) (a4:OA) (c4:Nat) (w:World) (hM:MoAt w Tt m v a1 c1 a2 c2 a3 c3 a4 c4) :
 Calls Tryz.prog 112 #[v] w fun e w'=>e = .returned (.int .i64 m.err)/\Below w.heap.size w w':=by
 obtain rfl:=hM.val;have HM:Hid (MoAt w Tt m (.agg #[.string m.name,.slice a1 m.uses.length c1,.slice a2 m.decls.length c2,.slice a3 m.procs.length c3,.slice a4 m.main.length c4]) a1 c1 a2 c2 a3 c3 a4 c4):=hM;clear hM;have HB:Hid (Blk (w.alloc (mC m a1 c1 a2 c2 a3 c3 a4 c4)) w.heap.size [.string m.name,.slice a1 m.uses.length c1,.slice a2 m.decls.length c2,.slice a3 m.procs.length c3,.slice a4 m.main.length c4]):=Blk.new w _ _;go_enter Tryz.func112,Tryz.ntmps112;go_wp2_with fail;refine (zkz _).mono ?_;rintro e w1 ⟨be,rfl,hS,hb1⟩;have HS:=hid hS;have k:=HB.out.later hb1;have g1:=thenB (al1 _ _) hb1;clear HB hb1 hS;have HB:=hid k;obtain ⟨m0,m1,m2,m3,m4,mz⟩:=k.c5;clear k;go_wp2_with fail;refine (zky _).mono ?_;rintro e w2 ⟨bs,rfl,hT,hb2⟩;have HS2:=hid ((HS.out.later hb2).later (al1 _ (.cells #[.map (some be),.map (some bs)] 235)))
 have HT:=hid (hT.later (al1 _ (.cells #[.map (some be),.map (some bs)] 235)));have k:=(HB.out.later hb2).later (al1 _ (.cells #[.map (some be),.map (some bs)] 235));have k0:=Blk.new w2 #[.map (some be),.map (some bs)] 235;have g2:=thenB g1 hb2;have g3:=thenB g2 (al1 _ (.cells #[.map (some be),.map (some bs)] 235))
 have hm2:=(HB.out.later hb2)
 clear HB hb2 hT HS g1 m0 m1 m2 m3 m4 mz;obtain ⟨m0,m1,m2,m3,m4,mz⟩:=hm2.c5;have HB:=hid k;have HB0:=hid k0;clear k k0 hm2;go_wp2_with fail;refine (znk be bs m _ a1 c1 a2 c2 a3 c3 a4 c4 _ (HM.out.later g3) HS2.out HT.out).mono ?_
 cases h1:m.kinds with
 | false=>
   rintro e w3 ⟨rfl,hb3⟩;go_wp2_with fail;go_ret;exact ⟨zaq (zwy h1).symm,thenB g3 hb3⟩
 | true=>
 rintro e w3 ⟨rfl,hb3⟩;have k:=HB.out.later hb3;have k0:=HB0.out.later hb3;have s1:=HS2.out.later hb3;have s2:=HT.out.later hb3;have g4:=thenB g3 hb3;clear HB HB0 HS2 HT g2 g3 hb3 m0 m1 m2 m3 m4 mz;obtain ⟨m0,m1,m2,m3,m4,mz⟩:=k.c5;obtain ⟨q0,q1,qz⟩:=k0.c2;have HB:=hid k;have HB0:=hid k0;have HS2:=hid s1;have HT:=hid s2;clear k k0 s1 s2;go_wp2_with fail;refine (zkq be bs m _ a1 c1 a2 c2 a3 c3 a4 c4 _ (HM.out.later g4) HS2.out HT.out).mono ?_
 cases h2:m.many with
 | true=>
   rintro e w4 ⟨rfl,hb4⟩;go_wp2_with fail;go_ret;exact ⟨zaq (zwz h1 h2).symm,thenB g4 hb4⟩
 | false=>
 rintro e w4 ⟨rfl,hb4⟩;have k:=HB.out.later hb4;have k0:=HB0.out.later hb4;have s1:=HS2.out.later hb4;have s2:=HT.out.later hb4;have g5:=thenB g4 hb4;clear HB HB0 HS2 HT g4 hb4 m0 m1 m2 m3 m4 mz q0 q1 qz;obtain ⟨m0,m1,m2,m3,m4,mz⟩:=k.c5;obtain ⟨q0,q1,qz⟩:=k0.c2;have HS2:=hid s1;have HT:=hid s2;clear k k0 s1 s2;go_wp2_with fail;refine (zo1 be bs m _ a1 c1 a2 c2 a3 c3 a4 c4 _ (HM.out.later g5) HS2.out HT.out h2).mono ?_
 cases h3:m.form with
 | false=>
   rintro e w5 ⟨rfl,hb5⟩;go_wp2_with fail;go_ret;exact ⟨zaq (zw0 h1 h2 h3).symm,thenB g5 hb5⟩
 | true=>
 rintro e w5 ⟨rfl,hb5⟩;go_wp2_with fail;go_ret;exact ⟨zaq (z0v h1 h2 h3).symm,thenB g5 hb5⟩
end Go.Proofs.YtndkhgakfodldaaGreatDoor

namespace Go.Proofs.YtndkhgakfodldaaGreatDoor
open Go.RowKit
abbrev zl9:ByteArray:=⟨#[109,111,100,117,108,101]⟩
abbrev zqk:ByteArray:=⟨#[117,115,101]⟩
abbrev zc0:ByteArray:=⟨#[112,117,98]⟩
abbrev znl:ByteArray:=⟨#[99,111,110,115,116]⟩
abbrev z0w:ByteArray:=⟨#[118,97,114]⟩
abbrev znm:ByteArray:=⟨#[97,114,114,97,121]⟩
abbrev zzg:ByteArray:=⟨#[112,114,111,99]⟩
abbrev zd0:ByteArray:=⟨#[108,111,99,97,108]⟩
abbrev zo2:ByteArray:=⟨#[109,97,105,110]⟩
abbrev tIf:ByteArray:=⟨#[105,102]⟩
abbrev zo3:ByteArray:=⟨#[101,108,115,101]⟩
abbrev zga:ByteArray:=⟨#[119,104,105,108,101]⟩
abbrev ze1:ByteArray:=⟨#[114,101,116,117,114,110]⟩
abbrev zyv:ByteArray:=⟨#[111,117,116]⟩
abbrev tIn:ByteArray:=⟨#[105,110]⟩
abbrev tLb:ByteArray:=⟨#[123]⟩
abbrev tRb:ByteArray:=⟨#[125]⟩
abbrev tLp:ByteArray:=⟨#[40]⟩
abbrev tRp:ByteArray:=⟨#[41]⟩
abbrev tLs:ByteArray:=⟨#[91]⟩
abbrev tRs:ByteArray:=⟨#[93]⟩
abbrev zw1:ByteArray:=⟨#[44]⟩
abbrev zgy:ByteArray:=⟨#[59]⟩
abbrev tEq:ByteArray:=⟨#[61]⟩
abbrev zzh:ByteArray:=⟨#[46]⟩
abbrev z0x:ByteArray:=⟨#[33]⟩
def zzi:List (L8):=[[109,111,100,117,108,101],[117,115,101],[112,117,98],[99,111,110,115,116],[118,97,114],[97,114,114,97,121],[112,114,111,99],[108,111,99,97,108],[109,97,105,110],[105,102],[101,108,115,101],[119,104,105,108,101],[114,101,116,117,114,110],[111,117,116],[105,110]]
def opTexts:List ByteArray:=[⟨#[38]⟩,⟨#[124]⟩,⟨#[43]⟩,⟨#[45]⟩,⟨#[42]⟩,⟨#[47]⟩,⟨#[37]⟩,⟨#[61]⟩,⟨#[60]⟩]
def zma (s:ByteArray):Bool:=zzi.any (fun k=>s.toList == k)
def noTk:Tk:=⟨0,0,⟨#[]⟩⟩
def hd (l:List Tk):Tk:=l.getD 0 noTk
def skB (l:List Tk) (t:ByteArray):Bool:=(hd l).text.toList == t.toList
def zio (l:List Tk) (ts:List ByteArray):Option ByteArray:=ts.find? (fun t=>skB l t)
def zdh (l:List Tk):Option (ByteArray × List Tk):=if ((hd l).kind == 1 && !zma (hd l).text)=true then some ((hd l).text,l.tail) else none
def zkm (l:List Tk):Option (Int × List Tk):=if (hd l).kind=2 then some ((hd l).n,l.tail) else none
def ztn (l:List Tk):Option ((ByteArray × ByteArray) × List Tk):=
 match zdh l with
 | none=>none
 | some (a,l1)=>if skB l1 zzh then (match zdh l1.tail with | none=>none | some (b,l2)=>some ((a,b),l2)) else some ((⟨#[]⟩,a),l1)
def ztw (l:List Tk):Option Nat:=opTexts.findIdx? (fun t=>skB l t)
mutual
def zbu:Nat->List Tk->Option (Ex × List Tk)
 | 0,_=>none
 | f+1,l=>
   if (hd l).kind=2 then some (.mk 1 (hd l).n ⟨#[]⟩ ⟨#[]⟩ [],l.tail)
   else if skB l tIn then some (.mk 2 0 ⟨#[]⟩ ⟨#[]⟩ [],l.tail)
   else if skB l z0x then (match zbu f l.tail with | none=>none | some (x,l1)=>some (.mk 6 0 ⟨#[]⟩ ⟨#[]⟩ [x],l1))
   else if skB l tLp then zfg f l.tail
   else match ztn l with
    | none=>none
    | some ((m,n),l1)=>
      if skB l1 tLs then (match zbu f l1.tail with | none=>none | some (x,l2)=>if skB l2 tRs then some (.mk 4 0 m n [x],l2.tail) else none)
      else if skB l1 tLp then (match zeb f l1.tail with | none=>none | some (xs,l2)=>some (.mk 5 0 m n xs,l2))
      else some (.mk 3 0 m n [],l1)
def zfg:Nat->List Tk->Option (Ex × List Tk)
 | 0,_=>none
 | f + 1,l=>
   match zbu f l with
   | none=>none
   | some (a,l1)=>match ztw l1 with
     | none=>none
     | some k=>match zbu f l1.tail with
       | none=>none
       | some (b,l2)=>if skB l2 tRp then some (.mk (7+k) 0 ⟨#[]⟩ ⟨#[]⟩ [a,b],l2.tail) else none
def zeb:Nat->List Tk->Option (List Ex × List Tk)
 | 0,_=>none
 | f+1,l=>
   if skB l tRp then some ([],l.tail)
   else match zbu f l with
    | none=>none
    | some (x,l1)=>zf3 f [x] l1
def zf3:Nat->List Ex->List Tk->Option (List Ex × List Tk)
 | 0,_,_=>none
 | f+1,acc,l=>
   if skB l zw1 then (match zbu f l.tail with | none=>none | some (x,l1)=>zf3 f (acc++[x]) l1)
   else if skB l tRp then some (acc,l.tail) else none
end
theorem ztx {l:List Tk} {t:ByteArray} (ht:0<t.size) (h:skB l t=true):l≠[]:=by
 rintro rfl;unfold skB at h
 have e:(hd ([]:List Tk)).text.toList=[]:=by rw [vas];rfl
 rw [e,vas] at h;have h1:t.data.toList=[]:=(beq_iff_eq.1 h).symm;have h2:=Lx.za1 t;rw [h1] at h2;simp at h2;omega
theorem zhz {l:List Tk} (h:l≠[]):l.tail.length<l.length:=by cases l with | nil=>exact absurd rfl h | cons x r=>simp
theorem zam {l:List Tk} {t:ByteArray} (ht:0<t.size) (h:skB l t=true):l.tail.length<l.length:=zhz (ztx ht h)
theorem zjc {l:List Tk} (h:(hd l).kind≠0):l≠[]:=by rintro rfl;exact h rfl
theorem zbq {l l':List Tk} {a:ByteArray} (h:zdh l=some (a,l')):l'.length<l.length:=by
 unfold zdh at h
 split at h
 . rename_i hk
   have hk':(hd l).kind=1:=by
    simp only [van,beq_iff_eq] at hk;exact hk.1
   obtain ⟨_,rfl⟩:=vak (vac h);exact zhz (zjc (by rw [hk'];decide))
 . cases h
theorem zty {l l':List Tk} {a:Int} (h:zkm l=some (a,l')):l'.length<l.length:=by
 unfold zkm at h
 split at h
 . rename_i hk
   obtain ⟨_,rfl⟩:=vak (vac h);exact zhz (zjc (by rw [hk];decide))
 . cases h
theorem zo4 {l l':List Tk} {a:ByteArray × ByteArray} (h:ztn l=some (a,l')):l'.length<l.length:=by
 unfold ztn at h
 split at h
 . cases h
 . rename_i a1 l1 h1
   have:=zbq h1
   split at h
   . rename_i hs
     have:=zam (by decide) hs
     split at h
     . cases h
     . rename_i b l2 h2
       have:=zbq h2;obtain ⟨_,rfl⟩:=vak (vac h);omega
   . obtain ⟨_,rfl⟩:=vak (vac h)
     omega
theorem ztz {l:List Tk} {k:Nat} (h:ztw l=some k):l≠[]:=by
 unfold ztw at h;obtain ⟨hk,h2,_⟩:=vbd.1 h
 have:0<(opTexts[k]).size:=by
  have:∀ x ∈ opTexts,0<x.size:=by decide
  exact this _ (vah hk)
 exact ztx this h2
mutual
theorem zcr:∀ (f:Nat) (l l':List Tk) (x:Ex),zbu f l=some (x,l')->l'.length<l.length
 | 0,_,_,_,h=>by simp [zbu] at h
 | f + 1,l,l',x,h=>by
   unfold zbu at h
   split at h
   . rename_i hk
     obtain ⟨_,rfl⟩:=vak (vac h);exact zhz (zjc (by rw [hk];decide))
   split at h
   . rename_i hs
     obtain ⟨_,rfl⟩:=vak (vac h);exact zam (by decide) hs
   split at h
   . rename_i hs
     have:=zam (by decide) hs
     split at h
     . cases h
     . rename_i y l1 h1
       have:=zcr f _ _ _ h1;obtain ⟨_,rfl⟩:=vak (vac h);omega
   split at h
   . rename_i hs
     have:=zam (by decide) hs;have:=zw2 f _ _ _ h;omega
   split at h
   . cases h
   . rename_i m n l1 h1
     have:=zo4 h1
     split at h
     . rename_i hs
       have:=zam (by decide) hs
       split at h
       . cases h
       . rename_i y l2 h2
         have:=zcr f _ _ _ h2
         split at h
         . rename_i hs2
           have:=zam (by decide) hs2;obtain ⟨_,rfl⟩:=vak (vac h);omega
         . cases h
     split at h
     . rename_i hs
       have:=zam (by decide) hs
       split at h
       . cases h
       . rename_i y l2 h2
         have:=zql f _ _ _ h2;obtain ⟨_,rfl⟩:=vak (vac h);omega
     . obtain ⟨_,rfl⟩:=vak (vac h)
       omega
theorem zw2:∀ (f:Nat) (l l':List Tk) (x:Ex),zfg f l=some (x,l')->l'.length<l.length
 | 0,_,_,_,h=>by simp [zfg] at h
 | f + 1,l,l',x,h=>by
   unfold zfg at h
   split at h
   . cases h
   . rename_i a l1 h1
     have:=zcr f _ _ _ h1
     split at h
     . cases h
     . rename_i k hk
       have:=zhz (ztz hk)
       split at h
       . cases h
       . rename_i b l2 h2
         have:=zcr f _ _ _ h2
         split at h
         . rename_i hs2
           have:=zam (by decide) hs2;obtain ⟨_,rfl⟩:=vak (vac h);omega
         . cases h
theorem zql:∀ (f:Nat) (l l':List Tk) (x:List Ex),zeb f l=some (x,l')->l'.length<l.length
 | 0,_,_,_,h=>by simp [zeb] at h
 | f + 1,l,l',x,h=>by
   unfold zeb at h
   split at h
   . rename_i hs
     obtain ⟨_,rfl⟩:=vak (vac h);exact zam (by decide) hs
   split at h
   . cases h
   . rename_i y l1 h1
     have:=zcr f _ _ _ h1;have:=zqm f _ _ _ _ h;omega
theorem zqm:∀ (f:Nat) (acc:List Ex) (l l':List Tk) (x:List Ex),zf3 f acc l=some (x,l')->l'.length<l.length
 | 0,_,_,_,_,h=>by simp [zf3] at h
 | f + 1,acc,l,l',x,h=>by
   unfold zf3 at h
   split at h
   . rename_i hs
     have:=zam (by decide) hs
     split at h
     . cases h
     . rename_i y l1 h1
       have:=zcr f _ _ _ h1;have:=zqm f _ _ _ _ h;omega
   split at h
   . rename_i hs
     obtain ⟨_,rfl⟩:=vak (vac h);exact zam (by decide) hs
   . cases h
end
def pX (l:List Tk):Option (Ex × List Tk):=zbu (3*l.length+8) l
def pAs (l:List Tk):Option (List Ex × List Tk):=zeb (3*l.length+8) l
theorem zmb {l l':List Tk} {x:Ex} (h:pX l=some (x,l')):l'.length<l.length:=zcr _ _ _ _ h
theorem z0y {l l':List Tk} {x:List Ex} (h:pAs l=some (x,l')):l'.length<l.length:=zql _ _ _ _ h
def zbx (l:List Tk):Option (St × List Tk):=
 match ztn l with
 | none=>none
 | some ((m,n),l1)=>
   if skB l1 tEq then (match pX l1.tail with | none=>none | some (x,l2)=>some (.mk 1 m n [x] [] [],l2))
   else if skB l1 tLs then (match pX l1.tail with
    | none=>none
    | some (x,l2)=>if skB l2 tRs then (if skB l2.tail tEq then (match pX l2.tail.tail with | none=>none | some (y,l3)=>some (.mk 2 m n [x,y] [] [],l3)) else none) else none)
   else if skB l1 tLp then (match pAs l1.tail with | none=>none | some (xs,l2)=>some (.mk 3 m n xs [] [],l2))
   else none
def zdq (r:Option (St × List Tk)):Option (St × List Tk):=match r with | none=>none | some (s,l)=>if skB l zgy then some (s,l.tail) else none
mutual
def zco:Nat->List Tk->Option (St × List Tk)
 | 0,_=>none
 | f+1,l=>
   if skB l tIf then (match pX l.tail with
    | none=>none
    | some (x,l1)=>match zb0 f l1 with
      | none=>none
      | some (b,l2)=>if skB l2 zo3 then (match zb0 f l2.tail with | none=>none | some (o,l3)=>if o.length=0 then none else some (.mk 4 ⟨#[]⟩ ⟨#[]⟩ [x] b o,l3))
        else some (.mk 4 ⟨#[]⟩ ⟨#[]⟩ [x] b [],l2))
   else if skB l zga then (match pX l.tail with
    | none=>none
    | some (x,l1)=>match zb0 f l1 with | none=>none | some (b,l2)=>some (.mk 5 ⟨#[]⟩ ⟨#[]⟩ [x] b [],l2))
   else if skB l ze1 then zdq (match pX l.tail with | none=>none | some (x,l1)=>some (.mk 6 ⟨#[]⟩ ⟨#[]⟩ [x] [] [],l1))
   else if skB l zyv then zdq (match pX l.tail with | none=>none | some (x,l1)=>some (.mk 7 ⟨#[]⟩ ⟨#[]⟩ [x] [] [],l1))
   else zdq (zbx l)
def zb0:Nat->List Tk->Option (List St × List Tk)
 | 0,_=>none
 | f+1,l=>if skB l tLb then zec f [] l.tail else none
def zec:Nat->List St->List Tk->Option (List St × List Tk)
 | 0,_,_=>none
 | f+1,acc,l=>
   if skB l tRb then some (acc,l.tail)
   else match zco f l with | none=>none | some (s,l1)=>zec f (acc++[s]) l1
end
end Go.Proofs.YtndkhgakfodldaaGreatDoor
