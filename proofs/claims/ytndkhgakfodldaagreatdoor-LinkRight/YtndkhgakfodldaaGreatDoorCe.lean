import Derived.Test.YtndkhgakfodldaaGreatDoorTd
namespace Go.Proofs.YtndkhgakfodldaaGreatDoor
set_option maxRecDepth 100000
set_option maxHeartbeats 3200000
open Go.RowKit Go.Maps
abbrev mC (m:Mo) (a:OA) (b:Nat) (c:OA) (e:Nat) (f:OA) (g:Nat) (h:OA) (i:Nat):Obj:=kzG m.name a m.uses.length b c m.decls.length e f m.procs.length g h m.main.length i
theorem hid {q:Prop} (h:q):Hid q:=h
theorem zfg {w:World} {a:OA} {l:List Pr} (h:DAt w Tt a l.length (zhz l)):l.length<=3518437208883:=by
 have h1:=h.2.1
 have h2:(zhz l).length=l.length*5:=by
  unfold zhz;rw [List.length_flatMap]
  have:∀ l:List Pr,(l.map (fun x=>x.ds.length)).sum=l.length*5:=by
   intro l
   induction l with
   | nil=>rfl
   | cons x r ih=>rw [vcn,List.sum_cons,ih,vav];have:x.ds.length=5:=rfl;omega
  exact this _
 omega
theorem zpx
 (be bs:Nat) (m:Mo) (v:Value) (a1:OA) (c1:Nat) (a2:OA) (c2:Nat) (a3:OA) (c3:Nat) (a4:OA) (c4:Nat) (w:World) (hM:MoAt w Tt m v a1 c1 a2 c2 a3 c3 a4 c4) (hS:zcz w be 15 zir) (hT:zcz w bs 7 zl1) :
 qc 152 #[.agg #[.map (some be),.map (some bs)],v] w fun e w'=>e = .returned (.bool m.kinds)/\qb w w':=by
 have HR:Hid (m.kinds=(m.decls.all (fun d:De=>decide (1<=d.kind)&&decide (d.kind<=3))&&m.bodies.all (zas 6))):=rfl;obtain rfl:=hM.val;have DM:=hM.uses.bound;have DL:=hM.decls.bound;have HP:Hid (m.procs.length<=3518437208883):=zfg hM.procs;have Fq:=HP.out;have HM:Hid (MoAt w Tt m (.agg #[.string m.name,.slice a1 m.uses.length c1,.slice a2 m.decls.length c2,.slice a3 m.procs.length c3,.slice a4 m.main.length c4]) a1 c1 a2 c2 a3 c3 a4 c4):=hM;have HS:Hid (zcz w be 15 zir):=hS;have HU:Hid (zcz w bs 7 zl1):=hT;clear hM hS hT;have Ay:Hid (Blk ((w.alloc (.cells #[.map (some be),.map (some bs)] 235)).alloc (mC m a1 c1 a2 c2 a3 c3 a4 c4)) w.heap.size [.map (some be),.map (some bs)]):=Blk.new1 w _ _ _;have A7:Hid (Blk ((w.alloc (.cells #[.map (some be),.map (some bs)] 235)).alloc (mC m a1 c1 a2 c2 a3 c3 a4 c4)) (w.heap.size+1) [.string m.name,.slice a1 m.uses.length c1,.slice a2 m.decls.length c2,.slice a3 m.procs.length c3,.slice a4 m.main.length c4]):=Blk.new2 w _ _ _
 go_enter Tryz.func152,Tryz.ntmps152;go_wp2_with fail
 go_loopw [12] (fun i wr=>∃ j:Nat,j<=m.decls.length/\i=qi j/\(m.decls.take j).all (fun d:De=>decide (1<=d.kind)&&decide (d.kind<=3))=true/\qb w wr/\Blk wr w.heap.size [.map (some be),.map (some bs)]/\Blk wr (w.heap.size+1) [.string m.name,.slice a1 m.uses.length c1,.slice a2 m.decls.length c2,.slice a3 m.procs.length c3,.slice a4 m.main.length c4]) (fun i _=>m.decls.length - (intOf i).toNat)
 case atStart=>exact ⟨0,vag _,rfl,rfl,al2 _ _ _,Ay.out,A7.out⟩
 case round=>
  clear Ay A7;obtain ⟨j,hj,rfl,A8,hb,hB0,hB1⟩:=hrel;have HA:Hid ((m.decls.take j).all (fun d:De=>decide (1<=d.kind)&&decide (d.kind<=3))=true):=A8;obtain ⟨q0,q1,qz⟩:=hB0.c2;obtain ⟨m0,m1,m2,m3,m4,mz⟩:=hB1.c5;have Ay:Hid (Blk wr w.heap.size [.map (some be),.map (some bs)]):=hB0;have A7:=hid hB1;clear A8 hB0 hB1
  by_cases A4:j<m.decls.length
  . obtain ⟨b,off,rfl,hx⟩:=(HM.out.decls.later hb).de j A4
    have Ct:=hx.c0;have Be:=hx.c1;have BU:=hx.c2;have Es:=hx.c3;have C4:=hx.lt;clear hx
    by_cases hk:1<=m.decls[j].kind/\m.decls[j].kind<=3
    . obtain ⟨Cs,Ft⟩:=hk
      have HT:Hid ((m.decls.take (j+1)).all (fun d:De=>decide (1<=d.kind)&&decide (d.kind<=3))=true):=by
       show _=_
       rw [all_snoc m.decls _ j A4,HA.out];simp [Cs,Ft]
      go_wp2_with fail;go_roundw
      case rel=>exact ⟨j+1,by omega,by go_num,HT.out,thenB hb (al1 _ _),Ay.out.later (al1 _ _),A7.out.later (al1 _ _)⟩
      case measure=>simp [intOf];omega
    . have HF:Hid (m.decls.all (fun d:De=>decide (1<=d.kind)&&decide (d.kind<=3))=false):=all_not m.decls _ j A4 (by simp;omega)
      by_cases Cs:m.decls[j].kind<1
      . clear hk
        go_wp2_with fail;go_ret;exact ⟨ret_bool (by rw [HR.out,HF.out];rfl),thenB hb (al1 _ _)⟩
      . have Ft:3<m.decls[j].kind:=by omega
        clear hk;go_wp2_with fail;go_ret;exact ⟨ret_bool (by rw [HR.out,HF.out];rfl),thenB hb (al1 _ _)⟩
  . have JI:Hid (m.decls.all (fun d:De=>decide (1<=d.kind)&&decide (d.kind<=3))=true):=zda HA.out A4
    go_wp2_with fail;refine (zit m _ a1 c1 a2 c2 a3 c3 a4 c4 _ (HM.out.later hb)).mono ?_;rintro e w5 ⟨ba,bc,rfl,hBA,As⟩;have C0:Hid (zq3 w5 ba m.bodies):=hBA
    have Oy:m.bodies.length<=4000000000000:=by have:=HP.out;simp [Mo.bodies];omega
    have k0:=Ay.out.later As;have k1:=A7.out.later As;have AK:=thenB hb As;clear As hBA Ay A7;clear q0 q1 qz m0 m1 m2 m3 m4 mz;have Ay:Hid (Blk w5 w.heap.size [.map (some be),.map (some bs)]):=k0;have A7:=hid k1;have DY:Hid (qb w w5):=AK;clear k0 k1 AK;go_wp2_with fail
    go_loopw [28] (fun i wr=>∃ j:Nat,j<=m.bodies.length/\i=qi j/\(m.bodies.take j).all (zas 6)=true/\qb w5 wr/\Blk wr w.heap.size [.map (some be),.map (some bs)]/\Blk wr (w.heap.size+1) [.string m.name,.slice a1 m.uses.length c1,.slice a2 m.decls.length c2,.slice a3 m.procs.length c3,.slice a4 m.main.length c4]) (fun i _=>m.bodies.length - (intOf i).toNat)
    case atStart=>exact ⟨0,vag _,rfl,rfl,Below.refl _ _,Ay.out,A7.out⟩
    case round=>
     clear Ay A7;obtain ⟨j,hj,rfl,A8,AP,hB0,hB1⟩:=hrel;have HA:Hid ((m.bodies.take j).all (zas 6)=true):=A8;obtain ⟨q0,q1,qz⟩:=hB0.c2;obtain ⟨m0,m1,m2,m3,m4,mz⟩:=hB1.c5;have Ay:Hid (Blk wr w.heap.size [.map (some be),.map (some bs)]):=hB0;have A7:=hid hB1;clear A8 hB0 hB1
     by_cases A4:j<m.bodies.length
     . obtain ⟨b,off,aa,cp,rfl,C4,hc,hx⟩:=(C0.out.later AP) j A4
       have HX:Hid (DAt wr Tt aa m.bodies[j].length (zbp m.bodies[j])):=hx;clear hx;go_wp2_with fail;refine (zlb be bs Tt 6 (by omega) m.bodies[j] aa cp 1 _ (by omega) HX.out ((HS.out.later DY.out).later AP) ((HU.out.later DY.out).later AP)).mono ?_
       cases h1:zas 6 m.bodies[j] with
       | false=>
         have HF:Hid (m.bodies.all (zas 6)=false):=all_not m.bodies _ j A4 h1;rintro e w8 ⟨rfl,AQ⟩;go_wp2_with fail;go_ret;exact ⟨ret_bool (by rw [HR.out,HF.out];simp),thenB DY.out (thenB AP AQ)⟩
       | true=>
         have HT:Hid ((m.bodies.take (j+1)).all (zas 6)=true):=by
          show _=_
          rw [all_snoc m.bodies _ j A4,HA.out,h1];rfl
         rintro e w8 ⟨rfl,AQ⟩;have k0:=Ay.out.later AQ;have k1:=A7.out.later AQ;go_wp2_with fail;go_roundw
         case rel=>exact ⟨j+1,by omega,by go_num,HT.out,thenB AP AQ,k0,k1⟩
         case measure=>simp [intOf];omega
     . have HT:Hid (m.bodies.all (zas 6)=true):=zda HA.out A4
       go_wp2_with fail;go_ret;exact ⟨ret_bool (by rw [HR.out,HT.out];simp [JI.out]),thenB DY.out AP⟩
theorem zl3
 (be bs:Nat) (m:Mo) (v:Value) (a1:OA) (c1:Nat) (a2:OA) (c2:Nat) (a3:OA) (c3:Nat) (a4:OA) (c4:Nat) (w:World) (hM:MoAt w Tt m v a1 c1 a2 c2 a3 c3 a4 c4) (hS:zcz w be 15 zir) (hT:zcz w bs 7 zl1) :
 qc 153 #[.agg #[.map (some be),.map (some bs)],v] w fun e w'=>e = .returned (.bool m.many)/\qb w w':=by
 by_cases hu:3<m.uses.length
 . have HT:Hid (m.many=true):=by show _=_;simp [Mo.many,hu]
   obtain rfl:=hM.val;have DM:=hM.uses.bound;clear hM hS hT;go_enter Tryz.func153,Tryz.ntmps153;go_wp2_with fail;go_ret;exact ⟨ret_bool HT.out.symm,al2 _ _ _⟩
 by_cases hd:10<m.decls.length
 . have HT:Hid (m.many=true):=by show _=_;simp [Mo.many,hd]
   obtain rfl:=hM.val;have DM:=hM.uses.bound;have DL:=hM.decls.bound;clear hM hS hT;go_enter Tryz.func153,Tryz.ntmps153;go_wp2_with fail;go_ret;exact ⟨ret_bool HT.out.symm,al2 _ _ _⟩
 by_cases hp:6<m.procs.length
 . have HT:Hid (m.many=true):=by show _=_;simp [Mo.many,hp]
   obtain rfl:=hM.val;have DM:=hM.uses.bound;have DL:=hM.decls.bound;have Fq:=zfg hM.procs;clear hM hS hT;go_enter Tryz.func153,Tryz.ntmps153;go_wp2_with fail;go_ret;exact ⟨ret_bool HT.out.symm,al2 _ _ _⟩
 have hR:m.many=(m.procs.any (fun p:Pr=>decide (3<p.params.length)||decide (4<p.locals.length))||m.bodies.any (zaf 6)):=by simp [Mo.many,hu,hd,hp]
 have HR:Hid (m.many=(m.procs.any (fun p:Pr=>decide (3<p.params.length)||decide (4<p.locals.length))||m.bodies.any (zaf 6))):=hR;clear hR;obtain rfl:=hM.val;have DM:=hM.uses.bound;have DL:=hM.decls.bound;have HP:Hid (m.procs.length<=3518437208883):=zfg hM.procs;have Fq:=HP.out;have HM:Hid (MoAt w Tt m (.agg #[.string m.name,.slice a1 m.uses.length c1,.slice a2 m.decls.length c2,.slice a3 m.procs.length c3,.slice a4 m.main.length c4]) a1 c1 a2 c2 a3 c3 a4 c4):=hM;have HS:Hid (zcz w be 15 zir):=hS;have HU:Hid (zcz w bs 7 zl1):=hT;clear hM hS hT;have Ay:Hid (Blk ((w.alloc (.cells #[.map (some be),.map (some bs)] 235)).alloc (mC m a1 c1 a2 c2 a3 c3 a4 c4)) w.heap.size [.map (some be),.map (some bs)]):=Blk.new1 w _ _ _;have A7:Hid (Blk ((w.alloc (.cells #[.map (some be),.map (some bs)] 235)).alloc (mC m a1 c1 a2 c2 a3 c3 a4 c4)) (w.heap.size+1) [.string m.name,.slice a1 m.uses.length c1,.slice a2 m.decls.length c2,.slice a3 m.procs.length c3,.slice a4 m.main.length c4]):=Blk.new2 w _ _ _
 go_enter Tryz.func153,Tryz.ntmps153;go_wp2_with fail
 go_loopw [28] (fun i wr=>∃ j:Nat,j<=m.procs.length/\i=qi j/\(m.procs.take j).any (fun p:Pr=>decide (3<p.params.length)||decide (4<p.locals.length))=false/\qb w wr/\Blk wr w.heap.size [.map (some be),.map (some bs)]/\Blk wr (w.heap.size+1) [.string m.name,.slice a1 m.uses.length c1,.slice a2 m.decls.length c2,.slice a3 m.procs.length c3,.slice a4 m.main.length c4]) (fun i _=>m.procs.length - (intOf i).toNat)
 case atStart=>exact ⟨0,vag _,rfl,rfl,al2 _ _ _,Ay.out,A7.out⟩
 case round=>
  clear Ay A7;obtain ⟨j,hj,rfl,A8,hb,hB0,hB1⟩:=hrel;have HA:Hid ((m.procs.take j).any (fun p:Pr=>decide (3<p.params.length)||decide (4<p.locals.length))=false):=A8;obtain ⟨q0,q1,qz⟩:=hB0.c2;obtain ⟨m0,m1,m2,m3,m4,mz⟩:=hB1.c5;have Ay:Hid (Blk wr w.heap.size [.map (some be),.map (some bs)]):=hB0;have A7:=hid hB1;clear A8 hB0 hB1
  by_cases A4:j<m.procs.length
  . obtain ⟨b,off,b1,d1,b2,d2,b3,d3,rfl,hx⟩:=(HM.out.procs.later hb).pr j A4
    have Ct:=hx.c0;have Be:=hx.c1;have BU:=hx.c2;have Es:=hx.c3;have FR:=hx.c4;have C4:=hx.lt;have e1:=hx.params.bound;have e2:=hx.locals.bound;clear hx
    by_cases hk:m.procs[j].params.length<=3/\m.procs[j].locals.length<=4
    . obtain ⟨Cs,Ft⟩:=hk
      have HT:Hid ((m.procs.take (j+1)).any (fun p:Pr=>decide (3<p.params.length)||decide (4<p.locals.length))=false):=by
       show _=_
       rw [zj1 m.procs _ j A4,HA.out];simp;omega
      go_wp2_with fail;go_roundw
      case rel=>exact ⟨j+1,by omega,by go_num,HT.out,thenB hb (al1 _ _),Ay.out.later (al1 _ _),A7.out.later (al1 _ _)⟩
      case measure=>simp [intOf];omega
    . have HF:Hid (m.procs.any (fun p:Pr=>decide (3<p.params.length)||decide (4<p.locals.length))=true):=zu3 m.procs _ j A4 (by simp;omega)
      by_cases Cs:3<m.procs[j].params.length
      . clear hk
        go_wp2_with fail;go_ret;exact ⟨ret_bool (by rw [HR.out,HF.out];rfl),thenB hb (al1 _ _)⟩
      . have Ft:4<m.procs[j].locals.length:=by omega
        clear hk;go_wp2_with fail;go_ret;exact ⟨ret_bool (by rw [HR.out,HF.out];rfl),thenB hb (al1 _ _)⟩
  . have JI:Hid (m.procs.any (fun p:Pr=>decide (3<p.params.length)||decide (4<p.locals.length))=false):=zo5 HA.out A4
    go_wp2_with fail;refine (zit m _ a1 c1 a2 c2 a3 c3 a4 c4 _ (HM.out.later hb)).mono ?_;rintro e w5 ⟨ba,bc,rfl,hBA,As⟩;have C0:Hid (zq3 w5 ba m.bodies):=hBA
    have Oy:m.bodies.length<=4000000000000:=by have:=HP.out;simp [Mo.bodies];omega
    have k0:=Ay.out.later As;have k1:=A7.out.later As;have AK:=thenB hb As;clear As hBA Ay A7;clear q0 q1 qz m0 m1 m2 m3 m4 mz;have Ay:Hid (Blk w5 w.heap.size [.map (some be),.map (some bs)]):=k0;have A7:=hid k1;have DY:Hid (qb w w5):=AK;clear k0 k1 AK;go_wp2_with fail
    go_loopw [46] (fun i wr=>∃ j:Nat,j<=m.bodies.length/\i=qi j/\(m.bodies.take j).any (zaf 6)=false/\qb w5 wr/\Blk wr w.heap.size [.map (some be),.map (some bs)]/\Blk wr (w.heap.size+1) [.string m.name,.slice a1 m.uses.length c1,.slice a2 m.decls.length c2,.slice a3 m.procs.length c3,.slice a4 m.main.length c4]) (fun i _=>m.bodies.length - (intOf i).toNat)
    case atStart=>exact ⟨0,vag _,rfl,rfl,Below.refl _ _,Ay.out,A7.out⟩
    case round=>
     clear Ay A7;obtain ⟨j,hj,rfl,A8,AP,hB0,hB1⟩:=hrel;have HA:Hid ((m.bodies.take j).any (zaf 6)=false):=A8;obtain ⟨q0,q1,qz⟩:=hB0.c2;obtain ⟨m0,m1,m2,m3,m4,mz⟩:=hB1.c5;have Ay:Hid (Blk wr w.heap.size [.map (some be),.map (some bs)]):=hB0;have A7:=hid hB1;clear A8 hB0 hB1
     by_cases A4:j<m.bodies.length
     . obtain ⟨b,off,aa,cp,rfl,C4,hc,hx⟩:=(C0.out.later AP) j A4
       have HX:Hid (DAt wr Tt aa m.bodies[j].length (zbp m.bodies[j])):=hx;clear hx;go_wp2_with fail;refine (znn be bs Tt 6 (by omega) m.bodies[j] aa cp 1 _ (by omega) HX.out ((HS.out.later DY.out).later AP) ((HU.out.later DY.out).later AP)).mono ?_
       cases h1:zaf 6 m.bodies[j] with
       | true=>
         have HF:Hid (m.bodies.any (zaf 6)=true):=zu3 m.bodies _ j A4 h1;rintro e w8 ⟨rfl,AQ⟩;go_wp2_with fail;go_ret;exact ⟨ret_bool (by rw [HR.out,HF.out];simp),thenB DY.out (thenB AP AQ)⟩
       | false=>
         have HT:Hid ((m.bodies.take (j+1)).any (zaf 6)=false):=by
          show _=_
          rw [zj1 m.bodies _ j A4,HA.out,h1];rfl
         rintro e w8 ⟨rfl,AQ⟩;have k0:=Ay.out.later AQ;have k1:=A7.out.later AQ;go_wp2_with fail;go_roundw
         case rel=>exact ⟨j+1,by omega,by go_num,HT.out,thenB AP AQ,k0,k1⟩
         case measure=>simp [intOf];omega
     . have HT:Hid (m.bodies.any (zaf 6)=false):=zo5 HA.out A4
       go_wp2_with fail;go_ret;exact ⟨ret_bool (by rw [HR.out,HT.out];simp [JI.out]),thenB DY.out AP⟩
theorem zrr
 (be bs:Nat) (m:Mo) (v:Value) (a1:OA) (c1:Nat) (a2:OA) (c2:Nat) (a3:OA) (c3:Nat) (a4:OA) (c4:Nat) (w:World) (hM:MoAt w Tt m v a1 c1 a2 c2 a3 c3 a4 c4) (hS:zcz w be 15 zir) (hT:zcz w bs 7 zl1) (hY:m.many=false) :
 qc 154 #[.agg #[.map (some be),.map (some bs)],v] w fun e w'=>e = .returned (.bool m.form)/\qb w w':=by
 have HY:Hid (∀ j (h:j<m.bodies.length),zaf 6 m.bodies[j]=false):=fun j h=>by
  simp only [Mo.many,vat,vbw] at hY;simpa using hY.2.2.2.2 m.bodies[j] (vaj h)
 clear hY;have HR:Hid (m.form=(nameOk m.name&&(m.uses.all nameOk&&(m.decls.all (fun d:De=>nameOk d.name&&zd8 d)&&(m.procs.all (fun p:Pr=>nameOk p.name&&(p.params.all nameOk&&p.locals.all nameOk))&&m.bodies.all (zat 6)))))):=rfl;obtain rfl:=hM.val;have DM:=hM.uses.bound;have DL:=hM.decls.bound;have HP:Hid (m.procs.length<=3518437208883):=zfg hM.procs;have Fq:=HP.out;have HM:Hid (MoAt w Tt m (.agg #[.string m.name,.slice a1 m.uses.length c1,.slice a2 m.decls.length c2,.slice a3 m.procs.length c3,.slice a4 m.main.length c4]) a1 c1 a2 c2 a3 c3 a4 c4):=hM;have HS:Hid (zcz w be 15 zir):=hS;have HU:Hid (zcz w bs 7 zl1):=hT;clear hM hS hT;have Ay:Hid (Blk ((w.alloc (.cells #[.map (some be),.map (some bs)] 235)).alloc (mC m a1 c1 a2 c2 a3 c3 a4 c4)) w.heap.size [.map (some be),.map (some bs)]):=Blk.new1 w _ _ _
 have A7:Hid (Blk ((w.alloc (.cells #[.map (some be),.map (some bs)] 235)).alloc (mC m a1 c1 a2 c2 a3 c3 a4 c4)) (w.heap.size+1) [.string m.name,.slice a1 m.uses.length c1,.slice a2 m.decls.length c2,.slice a3 m.procs.length c3,.slice a4 m.main.length c4]):=Blk.new2 w _ _ _;go_enter Tryz.func154,Tryz.ntmps154;go_wp2_with fail;refine (zdw m.name _ HM.out.wna).mono ?_
 cases B5:nameOk m.name with
 | false=>
   rintro e w1 ⟨rfl,g1⟩;go_wp2_with fail;go_ret;exact ⟨ret_bool (by rw [HR.out,B5];rfl),thenB (al2 _ _ _) g1⟩
 | true=>
 rintro e w1 ⟨rfl,g1⟩;have k0:=Ay.out.later g1;have k1:=A7.out.later g1;have g2:qb w w1:=thenB (al2 _ _ _) g1;clear Ay A7 g1;obtain ⟨m0,m1,m2,m3,m4,mz⟩:=k1.c5;have Ay:Hid (Blk w1 w.heap.size [.map (some be),.map (some bs)]):=k0;have A7:=hid k1;clear k0 k1;go_wp2_with fail;refine (zgc m.uses a1 c1 _ (HM.out.uses.later g2)).mono ?_
 cases Ga:m.uses.all nameOk with
 | false=>
   rintro e w2 ⟨rfl,g1⟩;go_wp2_with fail;go_ret;exact ⟨ret_bool (by rw [HR.out,B5,Ga];rfl),thenB g2 g1⟩
 | true=>
 rintro e w2 ⟨rfl,g1⟩;have k0:=Ay.out.later g1;have k1:=A7.out.later g1;have g3:=thenB g2 g1;clear Ay A7 g1 g2 m0 m1 m2 m3 m4 mz;obtain ⟨m0,m1,m2,m3,m4,mz⟩:=k1.c5;have Ay:Hid (Blk w2 w.heap.size [.map (some be),.map (some bs)]):=k0;have A7:=hid k1;clear k0 k1;go_wp2_with fail;clear m0 m1 m2 m3 m4 mz
 go_loopw [24] (fun i wr=>∃ j:Nat,j<=m.decls.length/\i=qi j/\(m.decls.take j).all (fun d:De=>nameOk d.name&&zd8 d)=true/\qb w wr/\Blk wr w.heap.size [.map (some be),.map (some bs)]/\Blk wr (w.heap.size+1) [.string m.name,.slice a1 m.uses.length c1,.slice a2 m.decls.length c2,.slice a3 m.procs.length c3,.slice a4 m.main.length c4]) (fun i _=>m.decls.length - (intOf i).toNat)
 case atStart=>exact ⟨0,vag _,rfl,rfl,g3,Ay.out,A7.out⟩
 case round =>
  clear g3;clear Ay A7;obtain ⟨j,hj,rfl,A8,hb,hB0,hB1⟩:=hrel;have HA:Hid ((m.decls.take j).all (fun d:De=>nameOk d.name&&zd8 d)=true):=A8;obtain ⟨q0,q1,qz⟩:=hB0.c2;obtain ⟨m0,m1,m2,m3,m4,mz⟩:=hB1.c5;have Ay:Hid (Blk wr w.heap.size [.map (some be),.map (some bs)]):=hB0;have A7:=hid hB1;clear A8 hB0 hB1
  by_cases A4:j<m.decls.length
  . obtain ⟨b,off,rfl,hx⟩:=(HM.out.decls.later hb).de j A4
    have Ct:=hx.c0;have Be:=hx.c1;have BU:=hx.c2;have Es:=hx.c3;have C4:=hx.lt
    have HF:Hid ((nameOk m.decls[j].name&&zd8 m.decls[j])=false->m.form=false):=fun h=>by rw [HR.out,all_not m.decls (fun d:De=>nameOk d.name&&zd8 d) j A4 h];simp
    have O8:=hx.wna;clear hx;go_wp2_with fail;refine (zdw m.decls[j].name _ O8).mono ?_
    cases h1:nameOk m.decls[j].name with
    | false=>
      rintro e w3 ⟨rfl,g1⟩;go_wp2_with fail;go_ret;exact ⟨ret_bool (HF.out (by simp [h1])).symm,z5t hb g1⟩
    | true=>
      rintro e w3 ⟨rfl,g1⟩;have kd:=(Blk.new wr #[qi m.decls[j].kind,.string m.decls[j].name,.bool m.decls[j].pub,qi m.decls[j].n] 170).later g1;have z0:=kd.cell 0 _ rfl;have z1:=kd.cell 1 _ rfl;have z2:=kd.cell 2 _ rfl;have z3:=kd.cell 3 _ rfl;have zl:=kd.lt;have k0:=(Ay.out.later (al1 _ _)).later g1;have k1:=(A7.out.later (al1 _ _)).later g1;have g2:=z5t hb g1;clear g1 kd Ay A7 q0 q1 qz m0 m1 m2 m3 m4 mz;have Ay:Hid (Blk w3 w.heap.size [.map (some be),.map (some bs)]):=k0;have A7:=hid k1;clear k0 k1;go_wp2_with fail;refine (zo6 m.decls[j] _).mono ?_
      cases h2:zd8 m.decls[j] with
      | false=>
        rintro e w4 ⟨rfl,g1⟩;go_wp2_with fail;go_ret;exact ⟨ret_bool (HF.out (by simp [h2])).symm,thenB g2 g1⟩
      | true=>
        have HT:Hid ((m.decls.take (j+1)).all (fun d:De=>nameOk d.name&&zd8 d)=true):=by
         show _=_
         rw [all_snoc m.decls _ j A4,HA.out];simp [h1,h2]
        rintro e w4 ⟨rfl,g1⟩;have k0:=Ay.out.later g1;have k1:=A7.out.later g1;have g3:=thenB g2 g1;clear g1 g2;go_wp2_with fail;go_roundw
        case rel=>exact ⟨j+1,by omega,by go_num,HT.out,g3,k0,k1⟩
        case measure=>simp [intOf];omega
  . have JI : Hid (m.decls.all (fun d:De=>nameOk d.name&&zd8 d)=true):=zda HA.out A4
    go_wp2_with fail;clear A4 hj HA;clear q0 q1 qz m0 m1 m2 m3 m4 mz
    go_loopw [41] (fun i wr=>∃ j:Nat,j<=m.procs.length/\i=qi j/\(m.procs.take j).all (fun p:Pr=>nameOk p.name&&(p.params.all nameOk&&p.locals.all nameOk))=true/\qb w wr/\Blk wr w.heap.size [.map (some be),.map (some bs)]/\Blk wr (w.heap.size+1) [.string m.name,.slice a1 m.uses.length c1,.slice a2 m.decls.length c2,.slice a3 m.procs.length c3,.slice a4 m.main.length c4]) (fun i _=>m.procs.length - (intOf i).toNat)
    case atStart=>exact ⟨0,vag _,rfl,rfl,hb,Ay.out,A7.out⟩
    case round=>
     clear hb;clear Ay A7;obtain ⟨j,hj,rfl,A8,hb,hB0,hB1⟩:=hrel;have HA:Hid ((m.procs.take j).all (fun p:Pr=>nameOk p.name&&(p.params.all nameOk&&p.locals.all nameOk))=true):=A8;obtain ⟨q0,q1,qz⟩:=hB0.c2;obtain ⟨m0,m1,m2,m3,m4,mz⟩:=hB1.c5;have Ay:Hid (Blk wr w.heap.size [.map (some be),.map (some bs)]):=hB0;have A7:=hid hB1;clear A8 hB0 hB1
     by_cases A4:j<m.procs.length
     . obtain ⟨b,off,b1,d1,b2,d2,b3,d3,rfl,hx⟩:=(HM.out.procs.later hb).pr j A4
       have Ct:=hx.c0;have Be:=hx.c1;have BU:=hx.c2;have Es:=hx.c3;have FR:=hx.c4;have C4:=hx.lt;have HX:Hid (PrAt wr Tt b (off+j*5) m.procs[j] b1 d1 b2 d2 b3 d3):=hx
       have HF:Hid ((nameOk m.procs[j].name&&(m.procs[j].params.all nameOk&&m.procs[j].locals.all nameOk))=false->m.form=false):=fun h=>by rw [HR.out,all_not m.procs (fun p:Pr=>nameOk p.name&&(p.params.all nameOk&&p.locals.all nameOk)) j A4 h];simp
       clear hx;go_wp2_with fail;refine (zdw m.procs[j].name _ HX.out.wna).mono ?_
       cases h1:nameOk m.procs[j].name with
       | false=>
         rintro e w3 ⟨rfl,g1⟩;go_wp2_with fail;go_ret;exact ⟨ret_bool (HF.out (by simp [h1])).symm,z5t hb g1⟩
       | true =>
         rintro e w3 ⟨rfl,g1⟩;have kd:=(Blk.new wr #[.string m.procs[j].name,.bool m.procs[j].pub,.slice b1 m.procs[j].params.length d1,.slice b2 m.procs[j].locals.length d2,.slice b3 m.procs[j].body.length d3] 118).later g1;obtain ⟨z0,z1,z2,z3,z4,zl⟩:=kd.c5;have HK:Hid (Blk w3 wr.heap.size [.string m.procs[j].name,.bool m.procs[j].pub,.slice b1 m.procs[j].params.length d1,.slice b2 m.procs[j].locals.length d2,.slice b3 m.procs[j].body.length d3]):=kd;have k0:=(Ay.out.later (al1 _ _)).later g1;have k1:=(A7.out.later (al1 _ _)).later g1;have g2:=thenB (al1 _ _) g1;clear g1 kd Ay A7 q0 q1 qz m0 m1 m2 m3 m4 mz;have Ay:Hid (Blk w3 w.heap.size [.map (some be),.map (some bs)]):=k0;have A7:=hid k1;clear k0 k1;go_wp2_with fail;refine (zgc m.procs[j].params b1 d1 _ (HX.out.params.later g2)).mono ?_
         cases h2:m.procs[j].params.all nameOk with
         | false=>
           rintro e w4 ⟨rfl,g1⟩;go_wp2_with fail;go_ret;exact ⟨ret_bool (HF.out (by simp [h2])).symm,thenB hb (thenB g2 g1)⟩
         | true=>
           rintro e w4 ⟨rfl,g1⟩;have kd:=HK.out.later g1;clear z0 z1 z2 z3 z4 zl HK;obtain ⟨z0,z1,z2,z3,z4,zl⟩:=kd.c5;have k0:=Ay.out.later g1;have k1:=A7.out.later g1;have g3:=thenB g2 g1;clear g1 g2 kd Ay A7;have Ay:Hid (Blk w4 w.heap.size [.map (some be),.map (some bs)]):=k0;have A7:=hid k1;clear k0 k1;go_wp2_with fail;refine (zgc m.procs[j].locals b2 d2 _ (HX.out.locals.later g3)).mono ?_
           cases h3:m.procs[j].locals.all nameOk with
           | false=>
             rintro e w5 ⟨rfl,g1⟩;go_wp2_with fail;go_ret;exact ⟨ret_bool (HF.out (by simp [h3])).symm,thenB hb (thenB g3 g1)⟩
           | true=>
             have HT:Hid ((m.procs.take (j+1)).all (fun p:Pr=>nameOk p.name&&(p.params.all nameOk&&p.locals.all nameOk))=true):=by
              show _=_
              rw [all_snoc m.procs _ j A4,HA.out];simp only [h1,h2,h3];rfl
             rintro e w5 ⟨rfl,g1⟩;have k0:=Ay.out.later g1;have k1:=A7.out.later g1;have g4:=thenB hb (thenB g3 g1);clear g1 g3;go_wp2_with fail;go_roundw
             case rel=>exact ⟨j+1,by omega,by go_num,HT.out,g4,k0,k1⟩
             case measure=>simp [intOf];omega
     . have Rp:Hid (m.procs.all (fun p:Pr=>nameOk p.name&&(p.params.all nameOk&&p.locals.all nameOk))=true):=zda HA.out A4
       go_wp2_with fail;refine (zit m _ a1 c1 a2 c2 a3 c3 a4 c4 _ (HM.out.later hb)).mono ?_;rintro e w5 ⟨ba,bc,rfl,hBA,As⟩;have C0:Hid (zq3 w5 ba m.bodies):=hBA
       have Oy:m.bodies.length<=4000000000000:=by have:=HP.out;simp [Mo.bodies];omega
       have k0:=Ay.out.later As;have k1:=A7.out.later As;have AK:=thenB hb As;clear As hBA Ay A7;clear q0 q1 qz m0 m1 m2 m3 m4 mz;have Ay:Hid (Blk w5 w.heap.size [.map (some be),.map (some bs)]):=k0;have A7:=hid k1;have DY:Hid (qb w w5):=AK;clear k0 k1 AK;go_wp2_with fail
       go_loopw [65] (fun i wr=>∃ j:Nat,j<=m.bodies.length/\i=qi j/\(m.bodies.take j).all (zat 6)=true/\qb w5 wr/\Blk wr w.heap.size [.map (some be),.map (some bs)]/\Blk wr (w.heap.size+1) [.string m.name,.slice a1 m.uses.length c1,.slice a2 m.decls.length c2,.slice a3 m.procs.length c3,.slice a4 m.main.length c4]) (fun i _=>m.bodies.length - (intOf i).toNat)
       case atStart=>exact ⟨0,vag _,rfl,rfl,Below.refl _ _,Ay.out,A7.out⟩
       case round=>
        clear Ay A7;obtain ⟨j,hj,rfl,A8,AP,hB0,hB1⟩:=hrel;have HA:Hid ((m.bodies.take j).all (zat 6)=true):=A8;obtain ⟨q0,q1,qz⟩:=hB0.c2;obtain ⟨m0,m1,m2,m3,m4,mz⟩:=hB1.c5;have Ay:Hid (Blk wr w.heap.size [.map (some be),.map (some bs)]):=hB0;have A7:=hid hB1;clear A8 hB0 hB1
        by_cases A4:j<m.bodies.length
        . obtain ⟨b,off,aa,cp,rfl,C4,hc,hx⟩:=(C0.out.later AP) j A4
          have HX:Hid (DAt wr Tt aa m.bodies[j].length (zbp m.bodies[j])):=hx;clear hx;go_wp2_with fail;refine (zwj be bs Tt 6 m.bodies[j] aa cp _ HX.out ((HS.out.later DY.out).later AP) ((HU.out.later DY.out).later AP) (Or.inr (HY.out j A4))).mono ?_
          cases h1:zat 6 m.bodies[j] with
          | false=>
            have HF:Hid (m.bodies.all (zat 6)=false):=all_not m.bodies _ j A4 h1;rintro e w8 ⟨rfl,AQ⟩;go_wp2_with fail;go_ret;exact ⟨ret_bool (by rw [HR.out,HF.out];simp),thenB DY.out (thenB AP AQ)⟩
          | true=>
            have HT:Hid ((m.bodies.take (j+1)).all (zat 6)=true):=by
             show _=_
             rw [all_snoc m.bodies _ j A4,HA.out,h1];rfl
            rintro e w8 ⟨rfl,AQ⟩;have k0:=Ay.out.later AQ;have k1:=A7.out.later AQ;go_wp2_with fail;go_roundw
            case rel=>exact ⟨j+1,by omega,by go_num,HT.out,thenB AP AQ,k0,k1⟩
            case measure=>simp [intOf];omega
        . have HT:Hid (m.bodies.all (zat 6)=true):=zda HA.out A4
          go_wp2_with fail;go_ret;exact ⟨ret_bool (by rw [HR.out,HT.out];simp [B5,Ga,JI.out,Rp.out]),thenB DY.out AP⟩
theorem z03 {m:Mo} (h:m.kinds=false):m.err=4:=by unfold Mo.err;rw [h];rfl
theorem z04 {m:Mo} (h:m.kinds=true) (h1:m.many=true):m.err=2:=by unfold Mo.err;rw [h,h1];rfl
theorem z05 {m:Mo} (h:m.kinds=true) (h1:m.many=false) (h2:m.form=false):m.err=1:=by unfold Mo.err;rw [h,h1,h2];rfl
theorem z6x {m:Mo} (h:m.kinds=true) (h1:m.many=false) (h2:m.form=true):m.err=0:=by unfold Mo.err;rw [h,h1,h2];rfl
theorem zmn (m:Mo) (v:Value) (a1:OA) (c1:Nat) (a2:OA) (c2:Nat) (a3:OA) (c3:Nat) (a4:OA) (c4:Nat) (w:World) (hM:MoAt w Tt m v a1 c1 a2 c2 a3 c3 a4 c4) :
 qc 112 #[v] w fun e w'=>e = .returned (qi m.err)/\qb w w':=by
 obtain rfl:=hM.val;have HM:Hid (MoAt w Tt m (.agg #[.string m.name,.slice a1 m.uses.length c1,.slice a2 m.decls.length c2,.slice a3 m.procs.length c3,.slice a4 m.main.length c4]) a1 c1 a2 c2 a3 c3 a4 c4):=hM;clear hM;have HB:Hid (Blk (w.alloc (mC m a1 c1 a2 c2 a3 c3 a4 c4)) w.heap.size [.string m.name,.slice a1 m.uses.length c1,.slice a2 m.decls.length c2,.slice a3 m.procs.length c3,.slice a4 m.main.length c4]):=Blk.new w _ _;go_enter Tryz.func112,Tryz.ntmps112;go_wp2_with fail;refine (zme _).mono ?_;rintro e w1 ⟨be,rfl,hS,A6⟩;have HS:=hid hS;have k:=HB.out.later A6;have g1:=thenB (al1 _ _) A6;clear HB A6 hS;have HB:=hid k;obtain ⟨m0,m1,m2,m3,m4,mz⟩:=k.c5;clear k;go_wp2_with fail;refine (zmd _).mono ?_;rintro e w2 ⟨bs,rfl,hT,Ab⟩;have F0:=hid ((HS.out.later Ab).later (al1 _ (.cells #[.map (some be),.map (some bs)] 235)))
 have HT:=hid (hT.later (al1 _ (.cells #[.map (some be),.map (some bs)] 235)));have k:=(HB.out.later Ab).later (al1 _ (.cells #[.map (some be),.map (some bs)] 235));have k0:=Blk.new w2 #[.map (some be),.map (some bs)] 235;have g2:=thenB g1 Ab;have g3:=thenB g2 (al1 _ (.cells #[.map (some be),.map (some bs)] 235))
 have Ir:=(HB.out.later Ab)
 clear HB Ab hT HS g1 m0 m1 m2 m3 m4 mz;obtain ⟨m0,m1,m2,m3,m4,mz⟩:=Ir.c5;have HB:=hid k;have Ay:=hid k0;clear k k0 Ir;go_wp2_with fail;refine (zpx be bs m _ a1 c1 a2 c2 a3 c3 a4 c4 _ (HM.out.later g3) F0.out HT.out).mono ?_
 cases h1:m.kinds with
 | false=>
   rintro e w3 ⟨rfl,A9⟩;go_wp2_with fail;go_ret;exact ⟨ret_int (z03 h1).symm,thenB g3 A9⟩
 | true=>
 rintro e w3 ⟨rfl,A9⟩;have k:=HB.out.later A9;have k0:=Ay.out.later A9;have s1:=F0.out.later A9;have s2:=HT.out.later A9;have g4:=thenB g3 A9;clear HB Ay F0 HT g2 g3 A9 m0 m1 m2 m3 m4 mz;obtain ⟨m0,m1,m2,m3,m4,mz⟩:=k.c5;obtain ⟨q0,q1,qz⟩:=k0.c2;have HB:=hid k;have Ay:=hid k0;have F0:=hid s1;have HT:=hid s2;clear k k0 s1 s2;go_wp2_with fail;refine (zl3 be bs m _ a1 c1 a2 c2 a3 c3 a4 c4 _ (HM.out.later g4) F0.out HT.out).mono ?_
 cases h2:m.many with
 | true=>
   rintro e w4 ⟨rfl,Aj⟩;go_wp2_with fail;go_ret;exact ⟨ret_int (z04 h1 h2).symm,thenB g4 Aj⟩
 | false=>
 rintro e w4 ⟨rfl,Aj⟩;have k:=HB.out.later Aj;have k0:=Ay.out.later Aj;have s1:=F0.out.later Aj;have s2:=HT.out.later Aj;have g5:=thenB g4 Aj;clear HB Ay F0 HT g4 Aj m0 m1 m2 m3 m4 mz q0 q1 qz;obtain ⟨m0,m1,m2,m3,m4,mz⟩:=k.c5;obtain ⟨q0,q1,qz⟩:=k0.c2;have F0:=hid s1;have HT:=hid s2;clear k k0 s1 s2;go_wp2_with fail;refine (zrr be bs m _ a1 c1 a2 c2 a3 c3 a4 c4 _ (HM.out.later g5) F0.out HT.out h2).mono ?_
 cases h3:m.form with
 | false=>
   rintro e w5 ⟨rfl,As⟩;go_wp2_with fail;go_ret;exact ⟨ret_int (z05 h1 h2 h3).symm,thenB g5 As⟩
 | true=>
 rintro e w5 ⟨rfl,As⟩;go_wp2_with fail;go_ret;exact ⟨ret_int (z6x h1 h2 h3).symm,thenB g5 As⟩
end Go.Proofs.YtndkhgakfodldaaGreatDoor

namespace Go.Proofs.YtndkhgakfodldaaGreatDoor
open Go.RowKit
abbrev zn2:ByteArray:=⟨#[109,111,100,117,108,101]⟩
abbrev zt0:ByteArray:=⟨#[117,115,101]⟩
abbrev zcu:ByteArray:=⟨#[112,117,98]⟩
abbrev zpy:ByteArray:=⟨#[99,111,110,115,116]⟩
abbrev z6y:ByteArray:=⟨#[118,97,114]⟩
abbrev zpz:ByteArray:=⟨#[97,114,114,97,121]⟩
abbrev z4h:ByteArray:=⟨#[112,114,111,99]⟩
abbrev zd6:ByteArray:=⟨#[108,111,99,97,108]⟩
abbrev zrs:ByteArray:=⟨#[109,97,105,110]⟩
abbrev tIf:ByteArray:=⟨#[105,102]⟩
abbrev zrt:ByteArray:=⟨#[101,108,115,101]⟩
abbrev zgw:ByteArray:=⟨#[119,104,105,108,101]⟩
abbrev zfh:ByteArray:=⟨#[114,101,116,117,114,110]⟩
abbrev z3s:ByteArray:=⟨#[111,117,116]⟩
abbrev tIn:ByteArray:=⟨#[105,110]⟩
abbrev tLb:ByteArray:=⟨#[123]⟩
abbrev tRb:ByteArray:=⟨#[125]⟩
abbrev tLp:ByteArray:=⟨#[40]⟩
abbrev tRp:ByteArray:=⟨#[41]⟩
abbrev tLs:ByteArray:=⟨#[91]⟩
abbrev tRs:ByteArray:=⟨#[93]⟩
abbrev z06:ByteArray:=⟨#[44]⟩
abbrev zhj:ByteArray:=⟨#[59]⟩
abbrev tEq:ByteArray:=⟨#[61]⟩
abbrev z4i:ByteArray:=⟨#[46]⟩
abbrev z6z:ByteArray:=⟨#[33]⟩
def z4j:List (L8):=[[109,111,100,117,108,101],[117,115,101],[112,117,98],[99,111,110,115,116],[118,97,114],[97,114,114,97,121],[112,114,111,99],[108,111,99,97,108],[109,97,105,110],[105,102],[101,108,115,101],[119,104,105,108,101],[114,101,116,117,114,110],[111,117,116],[105,110]]
def opTexts:List ByteArray:=[⟨#[38]⟩,⟨#[124]⟩,⟨#[43]⟩,⟨#[45]⟩,⟨#[42]⟩,⟨#[47]⟩,⟨#[37]⟩,⟨#[61]⟩,⟨#[60]⟩]
def zn3 (s:ByteArray):Bool:=z4j.any (fun k=>s.toList == k)
def noTk:Tk:=⟨0,0,⟨#[]⟩⟩
def hd (l:List Tk):Tk:=l.getD 0 noTk
def skB (l:List Tk) (t:ByteArray):Bool:=(hd l).text.toList == t.toList
def zjg (l:List Tk) (ts:List ByteArray):Option ByteArray:=ts.find? (fun t=>skB l t)
def zde (l:List Tk):Option (ByteArray × List Tk):=if ((hd l).kind == 1 && !zn3 (hd l).text)=true then some ((hd l).text,l.tail) else none
def pNum (l:List Tk):Option (Int × List Tk):=if (hd l).kind=2 then some ((hd l).n,l.tail) else none
def zw7 (l:List Tk):Option ((ByteArray × ByteArray) × List Tk):=
 match zde l with
 | none=>none
 | some (a,l1)=>if skB l1 z4i then (match zde l1.tail with | none=>none | some (b,l2)=>some ((a,b),l2)) else some ((⟨#[]⟩,a),l1)
def zxf (l:List Tk):Option Nat:=opTexts.findIdx? (fun t=>skB l t)
mutual
def zbm:Nat->List Tk->Option (Ex × List Tk)
 | 0,_=>none
 | f+1,l=>
   if (hd l).kind=2 then some (.mk 1 (hd l).n ⟨#[]⟩ ⟨#[]⟩ [],l.tail)
   else if skB l tIn then some (.mk 2 0 ⟨#[]⟩ ⟨#[]⟩ [],l.tail)
   else if skB l z6z then (match zbm f l.tail with | none=>none | some (x,l1)=>some (.mk 6 0 ⟨#[]⟩ ⟨#[]⟩ [x],l1))
   else if skB l tLp then zfz f l.tail
   else match zw7 l with
    | none=>none
    | some ((m,n),l1)=>
      if skB l1 tLs then (match zbm f l1.tail with | none=>none | some (x,l2)=>if skB l2 tRs then some (.mk 4 0 m n [x],l2.tail) else none)
      else if skB l1 tLp then (match zeg f l1.tail with | none=>none | some (xs,l2)=>some (.mk 5 0 m n xs,l2))
      else some (.mk 3 0 m n [],l1)
def zfz:Nat->List Tk->Option (Ex × List Tk)
 | 0,_=>none
 | f + 1,l=>
   match zbm f l with
   | none=>none
   | some (a,l1)=>match zxf l1 with
     | none=>none
     | some k=>match zbm f l1.tail with
       | none=>none
       | some (b,l2)=>if skB l2 tRp then some (.mk (7+k) 0 ⟨#[]⟩ ⟨#[]⟩ [a,b],l2.tail) else none
def zeg:Nat->List Tk->Option (List Ex × List Tk)
 | 0,_=>none
 | f+1,l=>
   if skB l tRp then some ([],l.tail)
   else match zbm f l with
    | none=>none
    | some (x,l1)=>zgq f [x] l1
def zgq:Nat->List Ex->List Tk->Option (List Ex × List Tk)
 | 0,_,_=>none
 | f+1,A5,l=>
   if skB l z06 then (match zbm f l.tail with | none=>none | some (x,l1)=>zgq f (A5++[x]) l1)
   else if skB l tRp then some (A5,l.tail) else none
end
theorem zxg {l:List Tk} {t:ByteArray} (ht:0<t.size) (h:skB l t=true):l≠[]:=by
 rintro rfl;unfold skB at h
 have e:(hd ([]:List Tk)).text.toList=[]:=by rw [vax];rfl
 rw [e,vax] at h;have h1:t.data.toList=[]:=(beq_iff_eq.1 h).symm;have h2:=Lx.zaz t;rw [h1] at h2;simp at h2;omega
theorem zih {l:List Tk} (h:l≠[]):l.tail.length<l.length:=by cases l with | nil=>exact absurd rfl h | cons x r=>simp
theorem zah {l:List Tk} {t:ByteArray} (ht:0<t.size) (h:skB l t=true):l.tail.length<l.length:=zih (zxg ht h)
theorem zj8 {l:List Tk} (h:(hd l).kind≠0):l≠[]:=by rintro rfl;exact h rfl
theorem zbk {l l':List Tk} {a:ByteArray} (h:zde l=some (a,l')):l'.length<l.length:=by
 unfold zde at h
 split at h
 . rename_i hk
   have Fu:(hd l).kind=1:=by
    simp only [vac,beq_iff_eq] at hk;exact hk.1
   obtain ⟨_,rfl⟩:=vao (vab h);exact zih (zj8 (by rw [Fu];decide))
 . cases h
theorem zxh {l l':List Tk} {a:Int} (h:pNum l=some (a,l')):l'.length<l.length:=by
 unfold pNum at h
 split at h
 . rename_i hk
   obtain ⟨_,rfl⟩:=vao (vab h);exact zih (zj8 (by rw [hk];decide))
 . cases h
theorem zru {l l':List Tk} {a:ByteArray × ByteArray} (h:zw7 l=some (a,l')):l'.length<l.length:=by
 unfold zw7 at h
 split at h
 . cases h
 . rename_i a1 l1 h1
   have:=zbk h1
   split at h
   . rename_i hs
     have:=zah (by decide) hs
     split at h
     . cases h
     . rename_i b l2 h2
       have:=zbk h2;obtain ⟨_,rfl⟩:=vao (vab h);omega
   . obtain ⟨_,rfl⟩:=vao (vab h)
     omega
theorem zxi {l:List Tk} {k:Nat} (h:zxf l=some k):l≠[]:=by
 unfold zxf at h;obtain ⟨hk,h2,_⟩:=vbo.1 h
 have:0<(opTexts[k]).size:=by
  have:∀ x ∈ opTexts,0<x.size:=by decide
  exact this _ (vaj hk)
 exact zxg this h2
mutual
theorem zci:∀ (f:Nat) (l l':List Tk) (x:Ex),zbm f l=some (x,l')->l'.length<l.length
 | 0,_,_,_,h=>by simp [zbm] at h
 | f + 1,l,l',x,h=>by
   unfold zbm at h
   split at h
   . rename_i hk
     obtain ⟨_,rfl⟩:=vao (vab h);exact zih (zj8 (by rw [hk];decide))
   split at h
   . rename_i hs
     obtain ⟨_,rfl⟩:=vao (vab h);exact zah (by decide) hs
   split at h
   . rename_i hs
     have:=zah (by decide) hs
     split at h
     . cases h
     . rename_i y l1 h1
       have:=zci f _ _ _ h1;obtain ⟨_,rfl⟩:=vao (vab h);omega
   split at h
   . rename_i hs
     have:=zah (by decide) hs;have:=z07 f _ _ _ h;omega
   split at h
   . cases h
   . rename_i m n l1 h1
     have:=zru h1
     split at h
     . rename_i hs
       have:=zah (by decide) hs
       split at h
       . cases h
       . rename_i y l2 h2
         have:=zci f _ _ _ h2
         split at h
         . rename_i AB
           have:=zah (by decide) AB;obtain ⟨_,rfl⟩:=vao (vab h);omega
         . cases h
     split at h
     . rename_i hs
       have:=zah (by decide) hs
       split at h
       . cases h
       . rename_i y l2 h2
         have:=zt1 f _ _ _ h2;obtain ⟨_,rfl⟩:=vao (vab h);omega
     . obtain ⟨_,rfl⟩:=vao (vab h)
       omega
theorem z07:∀ (f:Nat) (l l':List Tk) (x:Ex),zfz f l=some (x,l')->l'.length<l.length
 | 0,_,_,_,h=>by simp [zfz] at h
 | f + 1,l,l',x,h=>by
   unfold zfz at h
   split at h
   . cases h
   . rename_i a l1 h1
     have:=zci f _ _ _ h1
     split at h
     . cases h
     . rename_i k hk
       have:=zih (zxi hk)
       split at h
       . cases h
       . rename_i b l2 h2
         have:=zci f _ _ _ h2
         split at h
         . rename_i AB
           have:=zah (by decide) AB;obtain ⟨_,rfl⟩:=vao (vab h);omega
         . cases h
theorem zt1:∀ (f:Nat) (l l':List Tk) (x:List Ex),zeg f l=some (x,l')->l'.length<l.length
 | 0,_,_,_,h=>by simp [zeg] at h
 | f + 1,l,l',x,h=>by
   unfold zeg at h
   split at h
   . rename_i hs
     obtain ⟨_,rfl⟩:=vao (vab h);exact zah (by decide) hs
   split at h
   . cases h
   . rename_i y l1 h1
     have:=zci f _ _ _ h1;have:=zt2 f _ _ _ _ h;omega
theorem zt2:∀ (f:Nat) (A5:List Ex) (l l':List Tk) (x:List Ex),zgq f A5 l=some (x,l')->l'.length<l.length
 | 0,_,_,_,_,h=>by simp [zgq] at h
 | f + 1,A5,l,l',x,h=>by
   unfold zgq at h
   split at h
   . rename_i hs
     have:=zah (by decide) hs
     split at h
     . cases h
     . rename_i y l1 h1
       have:=zci f _ _ _ h1;have:=zt2 f _ _ _ _ h;omega
   split at h
   . rename_i hs
     obtain ⟨_,rfl⟩:=vao (vab h);exact zah (by decide) hs
   . cases h
end
def pX (l:List Tk):Option (Ex × List Tk):=zbm (3*l.length+8) l
def pAs (l:List Tk):Option (List Ex × List Tk):=zeg (3*l.length+8) l
theorem zn4 {l l':List Tk} {x:Ex} (h:pX l=some (x,l')):l'.length<l.length:=zci _ _ _ _ h
theorem z60 {l l':List Tk} {x:List Ex} (h:pAs l=some (x,l')):l'.length<l.length:=zt1 _ _ _ _ h
def zbr (l:List Tk):Option (St × List Tk):=
 match zw7 l with
 | none=>none
 | some ((m,n),l1)=>
   if skB l1 tEq then (match pX l1.tail with | none=>none | some (x,l2)=>some (.mk 1 m n [x] [] [],l2))
   else if skB l1 tLs then (match pX l1.tail with
    | none=>none
    | some (x,l2)=>if skB l2 tRs then (if skB l2.tail tEq then (match pX l2.tail.tail with | none=>none | some (y,l3)=>some (.mk 2 m n [x,y] [] [],l3)) else none) else none)
   else if skB l1 tLp then (match pAs l1.tail with | none=>none | some (xs,l2)=>some (.mk 3 m n xs [] [],l2))
   else none
def zdt (r:Option (St × List Tk)):Option (St × List Tk):=match r with | none=>none | some (s,l)=>if skB l zhj then some (s,l.tail) else none
mutual
def zce:Nat->List Tk->Option (St × List Tk)
 | 0,_=>none
 | f+1,l=>
   if skB l tIf then (match pX l.tail with
    | none=>none
    | some (x,l1)=>match zbt f l1 with
      | none=>none
      | some (b,l2)=>if skB l2 zrt then (match zbt f l2.tail with | none=>none | some (o,l3)=>if o.length=0 then none else some (.mk 4 ⟨#[]⟩ ⟨#[]⟩ [x] b o,l3))
        else some (.mk 4 ⟨#[]⟩ ⟨#[]⟩ [x] b [],l2))
   else if skB l zgw then (match pX l.tail with
    | none=>none
    | some (x,l1)=>match zbt f l1 with | none=>none | some (b,l2)=>some (.mk 5 ⟨#[]⟩ ⟨#[]⟩ [x] b [],l2))
   else if skB l zfh then zdt (match pX l.tail with | none=>none | some (x,l1)=>some (.mk 6 ⟨#[]⟩ ⟨#[]⟩ [x] [] [],l1))
   else if skB l z3s then zdt (match pX l.tail with | none=>none | some (x,l1)=>some (.mk 7 ⟨#[]⟩ ⟨#[]⟩ [x] [] [],l1))
   else zdt (zbr l)
def zbt:Nat->List Tk->Option (List St × List Tk)
 | 0,_=>none
 | f+1,l=>if skB l tLb then zeh f [] l.tail else none
def zeh:Nat->List St->List Tk->Option (List St × List Tk)
 | 0,_,_=>none
 | f+1,A5,l=>
   if skB l tRb then some (A5,l.tail)
   else match zce f l with | none=>none | some (s,l1)=>zeh f (A5++[s]) l1
end
end Go.Proofs.YtndkhgakfodldaaGreatDoor
