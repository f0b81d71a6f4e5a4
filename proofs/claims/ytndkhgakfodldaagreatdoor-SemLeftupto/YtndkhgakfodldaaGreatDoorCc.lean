import Derived.Test.YtndkhgakfodldaaGreatDoorCs
namespace Go.Proofs.YtndkhgakfodldaaGreatDoor
set_option maxRecDepth 100000
set_option maxHeartbeats 3200000
open Go.RowKit Go.Maps
theorem zwk (a0 a1:Bool) (a2 a3:Int) (a4 a5:Bool) (w:World):(Instr.field 270 (.agg #[.bool a0,.bool a1,.int .i64 a2,.int .i64 a3,.bool a4,.bool a5]) 4).run Tryz.prog w = .ok (.bool a4) w:=by kernel_rfl
theorem zik (be bs:Nat) (A:Nat->Prop):∀ (k:Nat),k<=6->∀ (l:List St) (a:OA) (cap:Nat) (deep:Int) (w:World),deep=7 - (k:Int)->DAt w A a l.length (zbj l)->zcj w be 15 zhl->zcj w bs 7 zju->
 Calls Tryz.prog 184 #[.agg #[.map (some be),.map (some bs)],.slice a l.length cap,.int .i64 deep] w fun e w'=>e = .returned (.bool (zao k l))/\Below w.heap.size w w'
 | 0,_,l,a,cap,deep,w,hd,_,_,_=>by
   subst hd
   have HR:Hid (zao 0 l=true):=by show _=_;simp [zao]
   go_enter Tryz.func184,Tryz.ntmps184;go_wp2_with fail;go_ret;exact ⟨zaa HR.out.symm,al1 _ _⟩
 | k + 1, hk, l,a,cap,deep,w,hd,hD,hS,hT=>by
   have HR:Hid (zao (k+1) l=l.all (fun s=>stB s.op&&(za4 6 s.args&&(zao k s.body&&zao k s.other)))):=by show _=_;simp [zao]
   have hbd:=hD.bound
   have hd1:1<=deep:=by omega
   have hd6:deep<=6:=by omega
   have HI:Hid (∀ (l:List St) (a:OA) (cap:Nat) (w:World),DAt w A a l.length (zbj l)->zcj w be 15 zhl->zcj w bs 7 zju->
    Calls Tryz.prog 184 #[.agg #[.map (some be),.map (some bs)],.slice a l.length cap,.int .i64 (deep+1)] w fun e w'=>e = .returned (.bool (zao k l))/\Below w.heap.size w w'):=
    fun l a cap w h1 h2 h3=>zik be bs A k (by omega) l a cap (deep+1) w (by omega) h1 h2 h3
   have HD:Hid (DAt w A a l.length (zbj l)):=hD;have HS:Hid (zcj w be 15 zhl):=hS;have HU:Hid (zcj w bs 7 zju):=hT;clear hD hS hT hd;have HB:Hid (Blk (w.alloc (.cells #[.map (some be),.map (some bs)] 235)) w.heap.size [.map (some be),.map (some bs)]):=Blk.new w _ _;go_enter Tryz.func184,Tryz.ntmps184;go_wp2_with fail
   go_loopw [15] (fun i wr=>∃ j:Nat,j<=l.length/\i = .int .i64 j/\(l.take j).all (fun s=>stB s.op&&(za4 6 s.args&&(zao k s.body&&zao k s.other)))=true/\Below w.heap.size w wr/\Blk wr w.heap.size [.map (some be),.map (some bs)]) (fun i _=>l.length - (intOf i).toNat)
   case atStart=>exact ⟨0,vad _,rfl,rfl,al1 _ _,HB.out⟩
   case round =>
    clear HB;obtain ⟨j,hj,rfl,hall,hb,hB⟩:=hrel;have q0:=hB.cell 0 _ rfl;have q1:=hB.cell 1 _ rfl;have qz:=hB.lt;have HB:Hid (Blk wr w.heap.size [.map (some be),.map (some bs)]):=hB;have HA:Hid ((l.take j).all (fun s=>stB s.op&&(za4 6 s.args&&(zao k s.body&&zao k s.other)))=true):=hall;clear hall hB
    by_cases hlt:j<l.length
    . obtain ⟨b,off,a1,p1,a2,p2,a3,p3,rfl,hx⟩:=(HD.out.later hb).st j hlt
      have hc0:=hx.c0;have hc1:=hx.c1;have hc2:=hx.c2;have hc3:=hx.c3;have hc4:=hx.c4;have hc5:=hx.c5;have hlb:=hx.lt;have hn1:=hx.args.bound;have hn2:=hx.body.bound;have hn3:=hx.other.bound;have HX:Hid (StAt wr A b (off+j*6) l[j] a1 p1 a2 p2 a3 p3):=hx
      have HF:Hid ((stB l[j].op&&(za4 6 l[j].args&&(zao k l[j].body&&zao k l[j].other)))=false->zao (k+1) l=false):=fun h=>by rw [HR.out];exact all_not l _ j hlt h
      have HT:Hid ((stB l[j].op&&(za4 6 l[j].args&&(zao k l[j].body&&zao k l[j].other)))=true->(l.take (j+1)).all (fun s=>stB s.op&&(za4 6 s.args&&(zao k s.body&&zao k s.other)))=true):=fun h=>by rw [all_snoc l _ j hlt,HA.out,h];rfl
      have hlk:=((HU.out.later hb).later (al1 _ (.cells #[.int .i64 l[j].op,.string l[j].mod,.string l[j].name,.slice a1 l[j].args.length p1,.slice a2 l[j].body.length p2,.slice a3 l[j].other.length p3] 176))).look_ok hx.wop;clear hx
      cases hop:(zju l[j].op).isSome with
      | false=>
        rw [hop] at hlk;simp only [Sh.val] at hlk;go_wp2_with fail;go_ret;exact ⟨zaa (HF.out (by simp [stB,hop])).symm,thenB hb (al2 _ _ _)⟩
      | true=>
        rw [hop] at hlk;generalize hs:(zju l[j].op).getD sh0=s at hlk;simp only [Sh.val] at hlk;clear hs;go_wp2_with fail;refine (zil be bs A 6 (by omega) l[j].args a1 p1 1 _ (by omega) (HX.out.args.later (al2 _ _ _)) ((HS.out.later hb).later (al2 _ _ _))).mono ?_
        cases h1:za4 6 l[j].args with
        | false=>
          rintro e w3 ⟨rfl,c3⟩;go_wp2_with fail;go_ret;exact ⟨zaa (HF.out (by simp [h1])).symm,z2q hb c3⟩
        | true=>
          rintro e w3 ⟨rfl,c3⟩;have B0:=(HB.out.later (al2 _ _ _)).later c3;have B1:=(Blk.new1 wr #[.int .i64 l[j].op,.string l[j].mod,.string l[j].name,.slice a1 l[j].args.length p1,.slice a2 l[j].body.length p2,.slice a3 l[j].other.length p3] 176 _).later c3;have hb3:Below wr.heap.size wr w3:=thenB (al2 _ _ _) c3;clear c3 q0 q1 qz;obtain ⟨q0,q1,qz⟩:=B0.c2;obtain ⟨x0,x1,x2,x3,x4,x5,xz⟩:=B1.c6;have K0:Hid (Blk w3 w.heap.size [.map (some be),.map (some bs)]):=B0;have K1:Hid (Blk w3 wr.heap.size [.int .i64 l[j].op,.string l[j].mod,.string l[j].name,.slice a1 l[j].args.length p1,.slice a2 l[j].body.length p2,.slice a3 l[j].other.length p3]):=B1;clear B0 B1;go_wp2_with fail;refine (HI.out l[j].body a2 p2 _ (HX.out.body.later hb3) ((HS.out.later hb).later hb3) ((HU.out.later hb).later hb3)).mono ?_
          cases h2:zao k l[j].body with
          | false=>
            rintro e w4 ⟨rfl,c4⟩;have hb4:=thenB hb3 c4;clear c4;go_wp2_with fail;go_ret;exact ⟨zaa (HF.out (by simp [h2])).symm,thenB hb hb4⟩
          | true=>
            rintro e w4 ⟨rfl,c4⟩;have B0:=K0.out.later c4;have B1:=K1.out.later c4;have hb4:=thenB hb3 c4;clear c4 K0 K1;clear q0 q1 qz x0 x1 x2 x3 x4 x5 xz;obtain ⟨q0,q1,qz⟩:=B0.c2;obtain ⟨x0,x1,x2,x3,x4,x5,xz⟩:=B1.c6;have K0:Hid (Blk w4 w.heap.size [.map (some be),.map (some bs)]):=B0;have K1:Hid (Blk w4 wr.heap.size [.int .i64 l[j].op,.string l[j].mod,.string l[j].name,.slice a1 l[j].args.length p1,.slice a2 l[j].body.length p2,.slice a3 l[j].other.length p3]):=B1;clear B0 B1;go_wp2_with fail;refine (HI.out l[j].other a3 p3 _ (HX.out.other.later hb4) ((HS.out.later hb).later hb4) ((HU.out.later hb).later hb4)).mono ?_
            cases h3:zao k l[j].other with
            | false=>
              rintro e w5 ⟨rfl,c5⟩;have hb5:=thenB hb4 c5;clear c5;go_wp2_with fail;go_ret;exact ⟨zaa (HF.out (by simp [h3])).symm,thenB hb hb5⟩
            | true=>
              rintro e w5 ⟨rfl,c5⟩;have K0':=K0.out.later c5;have hb5:=thenB hb4 c5;clear c5;have HT':Hid ((l.take (j+1)).all (fun s=>stB s.op&&(za4 6 s.args&&(zao k s.body&&zao k s.other)))=true):=HT.out (by simp [stB,hop,h1,h2,h3]);go_wp2_with fail;go_roundw
              case rel=>exact ⟨j+1,by omega,by go_num,HT'.out,thenB hb hb5,K0'⟩
              case measure=>simp [intOf];omega
    . have HT:Hid (l.all (fun s=>stB s.op&&(za4 6 s.args&&(zao k s.body&&zao k s.other)))=true):=zb1 HA.out hlt
      go_wp2_with fail;go_ret;exact ⟨zaa (by rw [HR.out,HT.out]),hb⟩
theorem zke (be bs:Nat) (A:Nat->Prop):∀ (k:Nat),k<=6->∀ (l:List St) (a:OA) (cap:Nat) (deep:Int) (w:World),deep=7 - (k:Int)->DAt w A a l.length (zbj l)->zcj w be 15 zhl->zcj w bs 7 zju->
 Calls Tryz.prog 185 #[.agg #[.map (some be),.map (some bs)],.slice a l.length cap,.int .i64 deep] w fun e w'=>e = .returned (.bool (zah k l))/\Below w.heap.size w w'
 | 0,_,l,a,cap,deep,w,hd,_,_,_=>by
   subst hd
   have HR:Hid (zah 0 l=true):=by show _=_;simp [zah]
   go_enter Tryz.func185,Tryz.ntmps185;go_wp2_with fail;go_ret;exact ⟨zaa HR.out.symm,al1 _ _⟩
 | k + 1, hk, l,a,cap,deep,w,hd,hD,hS,hT=>by
   have HR:Hid (zah (k+1) l=(decide (10<l.length)||l.any (fun s=>zan 6 s.args||(((stS s.op).body||decide (0<s.body.length))&&zah k s.body||(decide (0<s.other.length)&&zah k s.other))))):=by show _=_;simp [zah]
   have hbd:=hD.bound
   have hd1:1<=deep:=by omega
   have hd6:deep<=6:=by omega
   have HI:Hid (∀ (l:List St) (a:OA) (cap:Nat) (w:World),DAt w A a l.length (zbj l)->zcj w be 15 zhl->zcj w bs 7 zju->
    Calls Tryz.prog 185 #[.agg #[.map (some be),.map (some bs)],.slice a l.length cap,.int .i64 (deep+1)] w fun e w'=>e = .returned (.bool (zah k l))/\Below w.heap.size w w'):=
    fun l a cap w h1 h2 h3=>zke be bs A k (by omega) l a cap (deep+1) w (by omega) h1 h2 h3
   have HD:Hid (DAt w A a l.length (zbj l)):=hD;have HS:Hid (zcj w be 15 zhl):=hS;have HU:Hid (zcj w bs 7 zju):=hT;clear hD hS hT hd;have HB:Hid (Blk (w.alloc (.cells #[.map (some be),.map (some bs)] 235)) w.heap.size [.map (some be),.map (some bs)]):=Blk.new w _ _
   by_cases h10:10<l.length
   . have HN:Hid (zah (k+1) l=true):=by show _=_;rw [HR.out];simp [h10]
     go_enter Tryz.func185,Tryz.ntmps185;go_wp2_with fail;go_ret;exact ⟨zaa HN.out.symm,al1 _ _⟩
   have HN:Hid (zah (k+1) l=l.any (fun s=>zan 6 s.args||(((stS s.op).body||decide (0<s.body.length))&&zah k s.body||(decide (0<s.other.length)&&zah k s.other)))):=by show _=_;rw [HR.out];simp [h10]
   clear HR;go_enter Tryz.func185,Tryz.ntmps185;go_wp2_with fail
   go_loopw [18] (fun i wr=>∃ j:Nat,j<=l.length/\i = .int .i64 j/\(l.take j).any (fun s=>zan 6 s.args||(((stS s.op).body||decide (0<s.body.length))&&zah k s.body||(decide (0<s.other.length)&&zah k s.other)))=false/\Below w.heap.size w wr/\Blk wr w.heap.size [.map (some be),.map (some bs)]) (fun i _=>l.length - (intOf i).toNat)
   case atStart=>exact ⟨0,vad _,rfl,rfl,al1 _ _,HB.out⟩
   case round =>
    clear HB;obtain ⟨j,hj,rfl,hall,hb,hB⟩:=hrel;have q0:=hB.cell 0 _ rfl;have q1:=hB.cell 1 _ rfl;have qz:=hB.lt;have HB:Hid (Blk wr w.heap.size [.map (some be),.map (some bs)]):=hB;have HA:Hid ((l.take j).any (fun s=>zan 6 s.args||(((stS s.op).body||decide (0<s.body.length))&&zah k s.body||(decide (0<s.other.length)&&zah k s.other)))=false):=hall;clear hall hB
    by_cases hlt:j<l.length
    . obtain ⟨b,off,a1,p1,a2,p2,a3,p3,rfl,hx⟩:=(HD.out.later hb).st j hlt
      have hc0:=hx.c0;have hc1:=hx.c1;have hc2:=hx.c2;have hc3:=hx.c3;have hc4:=hx.c4;have hc5:=hx.c5;have hlb:=hx.lt;have hn1:=hx.args.bound;have hn2:=hx.body.bound;have hn3:=hx.other.bound;have HX:Hid (StAt wr A b (off+j*6) l[j] a1 p1 a2 p2 a3 p3):=hx
      have HF:Hid ((zan 6 l[j].args||(((stS l[j].op).body||decide (0<l[j].body.length))&&zah k l[j].body||(decide (0<l[j].other.length)&&zah k l[j].other)))=true->zah (k+1) l=true):=fun h=>by rw [HN.out];exact zq7 l _ j hlt h
      have HT:Hid ((zan 6 l[j].args||(((stS l[j].op).body||decide (0<l[j].body.length))&&zah k l[j].body||(decide (0<l[j].other.length)&&zah k l[j].other)))=false->(l.take (j+1)).any (fun s=>zan 6 s.args||(((stS s.op).body||decide (0<s.body.length))&&zah k s.body||(decide (0<s.other.length)&&zah k s.other)))=false):=fun h=>by rw [zif l _ j hlt,HA.out,h];rfl
      clear hx;go_wp2_with fail;refine (zkh A 6 (by omega) l[j].args a1 p1 1 _ (by omega) (HX.out.args.later (al1 _ _))).mono ?_
      cases h1:zan 6 l[j].args with
      | true=>
        rintro e w3 ⟨rfl,c3⟩;go_wp2_with fail;go_ret;exact ⟨zaa (HF.out (by simp [h1])).symm,zzr hb c3⟩
      | false =>
        rintro e w3 ⟨rfl,c3⟩;have B0:=(HB.out.later (al1 _ _)).later c3;have B1:=(Blk.new wr #[.int .i64 l[j].op,.string l[j].mod,.string l[j].name,.slice a1 l[j].args.length p1,.slice a2 l[j].body.length p2,.slice a3 l[j].other.length p3] 176).later c3;have hb3:Below wr.heap.size wr w3:=thenB (al1 _ _) c3;clear c3 q0 q1 qz;obtain ⟨q0,q1,qz⟩:=B0.c2;obtain ⟨x0,x1,x2,x3,x4,x5,xz⟩:=B1.c6;have K0:Hid (Blk w3 w.heap.size [.map (some be),.map (some bs)]):=B0;have K1:Hid (Blk w3 wr.heap.size [.int .i64 l[j].op,.string l[j].mod,.string l[j].name,.slice a1 l[j].args.length p1,.slice a2 l[j].body.length p2,.slice a3 l[j].other.length p3]):=B1;clear B0 B1;have hlk:(Instr.lookup 232 (.map (some bs)) (.int .i64 l[j].op) false).run Tryz.prog w3 = .ok (stS l[j].op).val w3:=((HU.out.later hb).later hb3).look HX.out.wop;simp only [Sh.val] at hlk;have hfd:=zwk
        cases hbo:(stS l[j].op).body with
        | true=>
          rw [hbo] at hlk
          have HG:Hid (((stS l[j].op).body||decide (0<l[j].body.length))=true):=by show _=_;simp [hbo]
          clear hbo;go_wp2_with fail;refine (HI.out l[j].body a2 p2 _ (HX.out.body.later hb3) ((HS.out.later hb).later hb3) ((HU.out.later hb).later hb3)).mono ?_
          cases h2:zah k l[j].body with
          | true=>
            rintro e w4 ⟨rfl,c4⟩;have hb4:=thenB hb3 c4;clear c4;go_wp2_with fail;go_ret;exact ⟨zaa (HF.out (by simp [HG.out,h2])).symm,thenB hb hb4⟩
          | false=>
            rintro e w4 ⟨rfl,c4⟩;have B0:=K0.out.later c4;have B1:=K1.out.later c4;have hb4:=thenB hb3 c4;clear c4 K0 K1;clear q0 q1 qz x0 x1 x2 x3 x4 x5 xz;obtain ⟨q0,q1,qz⟩:=B0.c2;obtain ⟨x0,x1,x2,x3,x4,x5,xz⟩:=B1.c6;have K0:Hid (Blk w4 w.heap.size [.map (some be),.map (some bs)]):=B0;have K1:Hid (Blk w4 wr.heap.size [.int .i64 l[j].op,.string l[j].mod,.string l[j].name,.slice a1 l[j].args.length p1,.slice a2 l[j].body.length p2,.slice a3 l[j].other.length p3]):=B1;clear B0 B1
            have HQ:Hid ((((stS l[j].op).body||decide (0<l[j].body.length))&&zah k l[j].body)=false):=by show _=_;simp [h2]
            by_cases h5:0<l[j].other.length
            . go_wp2_with fail
              refine (HI.out l[j].other a3 p3 _ (HX.out.other.later hb4) ((HS.out.later hb).later hb4) ((HU.out.later hb).later hb4)).mono ?_
              cases h6:zah k l[j].other with
              | true=>
                rintro e w9 ⟨rfl,c9⟩;have hb9:=thenB hb4 c9;clear c9;go_wp2_with fail;go_ret;exact ⟨zaa (HF.out (by simp [h5,h6])).symm,thenB hb hb9⟩
              | false=>
                rintro e w9 ⟨rfl,c9⟩;have K0':=K0.out.later c9;have hb9:=thenB hb4 c9;clear c9;have HT':Hid ((l.take (j+1)).any (fun s=>zan 6 s.args||(((stS s.op).body||decide (0<s.body.length))&&zah k s.body||(decide (0<s.other.length)&&zah k s.other)))=false):=HT.out (by simp [h1,h6,HQ.out]);go_wp2_with fail;go_roundw
                case rel=>exact ⟨j+1,by omega,by go_num,HT'.out,thenB hb hb9,K0'⟩
                case measure=>simp [intOf];omega
            . have HT':Hid ((l.take (j+1)).any (fun s=>zan 6 s.args||(((stS s.op).body||decide (0<s.body.length))&&zah k s.body||(decide (0<s.other.length)&&zah k s.other)))=false):=HT.out (by simp [h1,h5,HQ.out])
              have K0':=K0.out;go_wp2_with fail;go_roundw
              case rel=>exact ⟨j+1,by omega,by go_num,HT'.out,thenB hb hb4,K0'⟩
              case measure=>simp [intOf];omega
        | false =>
          rw [hbo] at hlk
          by_cases h4:0<l[j].body.length
          . have HG:Hid (((stS l[j].op).body||decide (0<l[j].body.length))=true):=by show _=_;simp [h4]
            clear hbo;go_wp2_with fail;refine (HI.out l[j].body a2 p2 _ (HX.out.body.later hb3) ((HS.out.later hb).later hb3) ((HU.out.later hb).later hb3)).mono ?_
            cases h2:zah k l[j].body with
            | true=>
              rintro e w4 ⟨rfl,c4⟩;have hb4:=thenB hb3 c4;clear c4;go_wp2_with fail;go_ret;exact ⟨zaa (HF.out (by simp [HG.out,h2])).symm,thenB hb hb4⟩
            | false=>
              rintro e w4 ⟨rfl,c4⟩;have B0:=K0.out.later c4;have B1:=K1.out.later c4;have hb4:=thenB hb3 c4;clear c4 K0 K1;clear q0 q1 qz x0 x1 x2 x3 x4 x5 xz;obtain ⟨q0,q1,qz⟩:=B0.c2;obtain ⟨x0,x1,x2,x3,x4,x5,xz⟩:=B1.c6;have K0:Hid (Blk w4 w.heap.size [.map (some be),.map (some bs)]):=B0;have K1:Hid (Blk w4 wr.heap.size [.int .i64 l[j].op,.string l[j].mod,.string l[j].name,.slice a1 l[j].args.length p1,.slice a2 l[j].body.length p2,.slice a3 l[j].other.length p3]):=B1;clear B0 B1
              have HQ:Hid ((((stS l[j].op).body||decide (0<l[j].body.length))&&zah k l[j].body)=false):=by show _=_;simp [h2]
              by_cases h5:0<l[j].other.length
              . go_wp2_with fail
                refine (HI.out l[j].other a3 p3 _ (HX.out.other.later hb4) ((HS.out.later hb).later hb4) ((HU.out.later hb).later hb4)).mono ?_
                cases h6:zah k l[j].other with
                | true=>
                  rintro e w9 ⟨rfl,c9⟩;have hb9:=thenB hb4 c9;clear c9;go_wp2_with fail;go_ret;exact ⟨zaa (HF.out (by simp [h5,h6])).symm,thenB hb hb9⟩
                | false=>
                  rintro e w9 ⟨rfl,c9⟩;have K0':=K0.out.later c9;have hb9:=thenB hb4 c9;clear c9;have HT':Hid ((l.take (j+1)).any (fun s=>zan 6 s.args||(((stS s.op).body||decide (0<s.body.length))&&zah k s.body||(decide (0<s.other.length)&&zah k s.other)))=false):=HT.out (by simp [h1,h6,HQ.out]);go_wp2_with fail;go_roundw
                  case rel=>exact ⟨j+1,by omega,by go_num,HT'.out,thenB hb hb9,K0'⟩
                  case measure=>simp [intOf];omega
              . have HT':Hid ((l.take (j+1)).any (fun s=>zan 6 s.args||(((stS s.op).body||decide (0<s.body.length))&&zah k s.body||(decide (0<s.other.length)&&zah k s.other)))=false):=HT.out (by simp [h1,h5,HQ.out])
                have K0':=K0.out;go_wp2_with fail;go_roundw
                case rel=>exact ⟨j+1,by omega,by go_num,HT'.out,thenB hb hb4,K0'⟩
                case measure=>simp [intOf];omega
          . have HQ:Hid ((((stS l[j].op).body||decide (0<l[j].body.length))&&zah k l[j].body)=false):=by show _=_;simp [hbo,h4]
            clear hbo
            by_cases h5:0<l[j].other.length
            . go_wp2_with fail
              refine (HI.out l[j].other a3 p3 _ (HX.out.other.later hb3) ((HS.out.later hb).later hb3) ((HU.out.later hb).later hb3)).mono ?_
              cases h6:zah k l[j].other with
              | true=>
                rintro e w9 ⟨rfl,c9⟩;have hb9:=thenB hb3 c9;clear c9;go_wp2_with fail;go_ret;exact ⟨zaa (HF.out (by simp [h5,h6])).symm,thenB hb hb9⟩
              | false=>
                rintro e w9 ⟨rfl,c9⟩;have K0':=K0.out.later c9;have hb9:=thenB hb3 c9;clear c9;have HT':Hid ((l.take (j+1)).any (fun s=>zan 6 s.args||(((stS s.op).body||decide (0<s.body.length))&&zah k s.body||(decide (0<s.other.length)&&zah k s.other)))=false):=HT.out (by simp [h1,h6,HQ.out]);go_wp2_with fail;go_roundw
                case rel=>exact ⟨j+1,by omega,by go_num,HT'.out,thenB hb hb9,K0'⟩
                case measure=>simp [intOf];omega
            . have HT':Hid ((l.take (j+1)).any (fun s=>zan 6 s.args||(((stS s.op).body||decide (0<s.body.length))&&zah k s.body||(decide (0<s.other.length)&&zah k s.other)))=false):=HT.out (by simp [h1,h5,HQ.out])
              have K0':=K0.out;go_wp2_with fail;go_roundw
              case rel=>exact ⟨j+1,by omega,by go_num,HT'.out,thenB hb hb3,K0'⟩
              case measure=>simp [intOf];omega
    . have HT:Hid (l.any (fun s=>zan 6 s.args||(((stS s.op).body||decide (0<s.body.length))&&zah k s.body||(decide (0<s.other.length)&&zah k s.other)))=false):=zmc HA.out hlt
      go_wp2_with fail;go_ret;exact ⟨zaa (by rw [HN.out,HT.out]),hb⟩
theorem zti {k:Nat} {l:List St} (h:l.length=0\/zah (k+1) l=false) (j:Nat) (hj:j<l.length):zan 6 l[j].args=false/\(l[j].body.length=0\/zah k l[j].body=false)/\(l[j].other.length=0\/zah k l[j].other=false):=by
 rcases h with h | h
 . omega
 . simp only [zah,vay,vbv] at h
   have:=h.2 l[j] (vah hj);simp only [vdf,vay,vdd,decide_eq_false_iff_not] at this;refine ⟨this.1,?_,?_⟩
   . rcases this.2.1 with h1 | h1
     . left;omega
     . exact Or.inr h1
   . rcases this.2.2 with h1 | h1
     . left;omega
     . exact Or.inr h1
theorem zrs (be bs:Nat) (A:Nat->Prop):∀ (k:Nat) (l:List St) (a:OA) (cap:Nat) (w:World),DAt w A a l.length (zbj l)->zcj w be 15 zhl->zcj w bs 7 zju->(l.length=0\/zah k l=false)->
 Calls Tryz.prog 189 #[.agg #[.map (some be),.map (some bs)],.slice a l.length cap] w fun e w'=>e = .returned (.bool (zap k l))/\Below w.heap.size w w':=by
 intro k
 induction k with
 | zero=>
   intro l a cap w hD hS hT hM
   have h0 : l.length = 0 := by rcases hM with h | h
                                . exact h
                                . simp [zah] at h
   have HR:Hid (zap 0 l=true):=by show _=_;simp [zap]
   rw [h0];go_enter Tryz.func189,Tryz.ntmps189;go_wp2_with fail
   go_loopw [10] (fun i wr=>i = .int .i64 0/\Below w.heap.size w wr) (fun _ _=>0)
   case atStart=>exact ⟨rfl,al1 _ _⟩
   case round=>
    obtain ⟨rfl,hb⟩:=hrel;go_wp2_with fail;go_ret;exact ⟨zaa HR.out.symm,hb⟩
 | succ k ih=>
   intro l a cap w hD hS hT hM
   have HR:Hid (zap (k+1) l=l.all (fun s=>zci (stS s.op) s.mod s.name&&(za3 (stS s.op) s.args.length&&(za9 6 s.args&&(((stS s.op).body||decide (s.body.length=0))&&(((stS s.op).other||decide (s.other.length=0))&&(zap k s.body&&zap k s.other))))))):=by show _=_;simp [zap]
   have hbd:=hD.bound
   have HI:Hid (∀ (l:List St) (a:OA) (cap:Nat) (w:World),DAt w A a l.length (zbj l)->zcj w be 15 zhl->zcj w bs 7 zju->(l.length=0\/zah k l=false)->
    Calls Tryz.prog 189 #[.agg #[.map (some be),.map (some bs)],.slice a l.length cap] w fun e w'=>e = .returned (.bool (zap k l))/\Below w.heap.size w w'):=ih
   have HD:Hid (DAt w A a l.length (zbj l)):=hD;have HS:Hid (zcj w be 15 zhl):=hS;have HU:Hid (zcj w bs 7 zju):=hT;have HM:Hid (∀ (j:Nat) (hj:j<l.length),zan 6 l[j].args=false/\(l[j].body.length=0\/zah k l[j].body=false)/\(l[j].other.length=0\/zah k l[j].other=false)):=zti hM;clear hD hS hT hM ih;have HB:Hid (Blk (w.alloc (.cells #[.map (some be),.map (some bs)] 235)) w.heap.size [.map (some be),.map (some bs)]):=Blk.new w _ _;go_enter Tryz.func189,Tryz.ntmps189;go_wp2_with fail
   go_loopw [10] (fun i wr=>∃ j:Nat,j<=l.length/\i = .int .i64 j/\(l.take j).all (fun s=>zci (stS s.op) s.mod s.name&&(za3 (stS s.op) s.args.length&&(za9 6 s.args&&(((stS s.op).body||decide (s.body.length=0))&&(((stS s.op).other||decide (s.other.length=0))&&(zap k s.body&&zap k s.other))))))=true/\Below w.heap.size w wr/\Blk wr w.heap.size [.map (some be),.map (some bs)]) (fun i _=>l.length - (intOf i).toNat)
   case atStart=>exact ⟨0,vad _,rfl,rfl,al1 _ _,HB.out⟩
   case round =>
    clear HB;obtain ⟨j,hj,rfl,hall,hb,hB⟩:=hrel;have q0:=hB.cell 0 _ rfl;have q1:=hB.cell 1 _ rfl;have qz:=hB.lt;have HB:Hid (Blk wr w.heap.size [.map (some be),.map (some bs)]):=hB;have HA:Hid ((l.take j).all (fun s=>zci (stS s.op) s.mod s.name&&(za3 (stS s.op) s.args.length&&(za9 6 s.args&&(((stS s.op).body||decide (s.body.length=0))&&(((stS s.op).other||decide (s.other.length=0))&&(zap k s.body&&zap k s.other))))))=true):=hall;clear hall hB
    by_cases hlt:j<l.length
    . obtain ⟨b, off, a1,p1,a2,p2,a3,p3,rfl,hx⟩:=(HD.out.later hb).st j hlt
      have hc0:=hx.c0;have hc1:=hx.c1;have hc2:=hx.c2;have hc3:=hx.c3;have hc4:=hx.c4;have hc5:=hx.c5;have hlb:=hx.lt;have hn1:=hx.args.bound;have hn2:=hx.body.bound;have hn3:=hx.other.bound;have HX:Hid (StAt wr A b (off+j*6) l[j] a1 p1 a2 p2 a3 p3):=hx
      have HF:Hid ((zci (stS l[j].op) l[j].mod l[j].name&&(za3 (stS l[j].op) l[j].args.length&&(za9 6 l[j].args&&(((stS l[j].op).body||decide (l[j].body.length=0))&&(((stS l[j].op).other||decide (l[j].other.length=0))&&(zap k l[j].body&&zap k l[j].other))))))=false->zap (k+1) l=false):=fun h=>by rw [HR.out];exact all_not l _ j hlt h
      have HT:Hid ((zci (stS l[j].op) l[j].mod l[j].name&&(za3 (stS l[j].op) l[j].args.length&&(za9 6 l[j].args&&(((stS l[j].op).body||decide (l[j].body.length=0))&&(((stS l[j].op).other||decide (l[j].other.length=0))&&(zap k l[j].body&&zap k l[j].other))))))=true->(l.take (j+1)).all (fun s=>zci (stS s.op) s.mod s.name&&(za3 (stS s.op) s.args.length&&(za9 6 s.args&&(((stS s.op).body||decide (s.body.length=0))&&(((stS s.op).other||decide (s.other.length=0))&&(zap k s.body&&zap k s.other))))))=true):=fun h=>by rw [all_snoc l _ j hlt,HA.out,h];rfl
      have hlk:(Instr.lookup 232 (.map (some bs)) (.int .i64 l[j].op) false).run Tryz.prog (wr.alloc (.cells #[.int .i64 l[j].op,.string l[j].mod,.string l[j].name,.slice a1 l[j].args.length p1,.slice a2 l[j].body.length p2,.slice a3 l[j].other.length p3] 176)) = .ok (stS l[j].op).val (wr.alloc (.cells #[.int .i64 l[j].op,.string l[j].mod,.string l[j].name,.slice a1 l[j].args.length p1,.slice a2 l[j].body.length p2,.slice a3 l[j].other.length p3] 176)):=((HU.out.later hb).later (al1 _ (.cells #[.int .i64 l[j].op,.string l[j].mod,.string l[j].name,.slice a1 l[j].args.length p1,.slice a2 l[j].body.length p2,.slice a3 l[j].other.length p3] 176))).look hx.wop;clear hx;generalize hs:stS l[j].op=s at hlk HF HT;clear hs;simp only [Sh.val] at hlk;go_wp2_with fail;refine (zhx s l[j].mod l[j].name _ HX.out.wm HX.out.wna).mono ?_
      cases h1:zci s l[j].mod l[j].name with
      | false=>
        rintro e w3 ⟨rfl,c3⟩;go_wp2_with fail;go_ret;exact ⟨zaa (HF.out (by simp [h1])).symm,z2q hb c3⟩
      | true=>
        rintro e w3 ⟨rfl,c3⟩;have B0:=(HB.out.later (al2 _ _ _)).later c3;have B1:=(Blk.new1 wr #[.int .i64 l[j].op,.string l[j].mod,.string l[j].name,.slice a1 l[j].args.length p1,.slice a2 l[j].body.length p2,.slice a3 l[j].other.length p3] 176 _).later c3;have B2:=(Blk.new2 wr #[.bool s.named,.bool s.number,.int .i64 s.least,.int .i64 s.most,.bool s.body,.bool s.other] 270 _).later c3;have hb3:Below wr.heap.size wr w3:=thenB (al2 _ _ _) c3;clear c3 q0 q1 qz;obtain ⟨q0,q1,qz⟩:=B0.c2;obtain ⟨x0,x1,x2,x3,x4,x5,xz⟩:=B1.c6;obtain ⟨y0,y1,y2,y3,y4,y5,yz⟩:=B2.c6;have K0:Hid (Blk w3 w.heap.size [.map (some be),.map (some bs)]):=B0;have K1:Hid (Blk w3 wr.heap.size [.int .i64 l[j].op,.string l[j].mod,.string l[j].name,.slice a1 l[j].args.length p1,.slice a2 l[j].body.length p2,.slice a3 l[j].other.length p3]):=B1;have K2:Hid (Blk w3 (wr.heap.size+1) [.bool s.named,.bool s.number,.int .i64 s.least,.int .i64 s.most,.bool s.body,.bool s.other]):=B2
        clear B0 B1 B2;go_wp2_with fail;refine (zf2 s a1 l[j].args.length p1 _).mono ?_
        cases h2:za3 s l[j].args.length with
        | false=>
          rintro e w4 ⟨rfl,c4⟩;have hb4:=thenB hb3 c4;clear c4;go_wp2_with fail;go_ret;exact ⟨zaa (HF.out (by simp [h2])).symm,thenB hb hb4⟩
        | true=>
          rintro e w4 ⟨rfl,c4⟩;have B0:=K0.out.later c4;have B1:=K1.out.later c4;have B2:=K2.out.later c4;have hb4:=thenB hb3 c4;clear c4 K0 K1 K2;clear q0 q1 qz x0 x1 x2 x3 x4 x5 xz y0 y1 y2 y3 y4 y5 yz;obtain ⟨q0,q1,qz⟩:=B0.c2;obtain ⟨x0,x1,x2,x3,x4,x5,xz⟩:=B1.c6;obtain ⟨y0,y1,y2,y3,y4,y5,yz⟩:=B2.c6;have K0:Hid (Blk w4 w.heap.size [.map (some be),.map (some bs)]):=B0;have K1:Hid (Blk w4 wr.heap.size [.int .i64 l[j].op,.string l[j].mod,.string l[j].name,.slice a1 l[j].args.length p1,.slice a2 l[j].body.length p2,.slice a3 l[j].other.length p3]):=B1;have K2:Hid (Blk w4 (wr.heap.size+1) [.bool s.named,.bool s.number,.int .i64 s.least,.int .i64 s.most,.bool s.body,.bool s.other]):=B2;clear B0 B1 B2;go_wp2_with fail;refine (zru be bs A 6 l[j].args a1 p1 _ (HX.out.args.later hb4) ((HS.out.later hb).later hb4) (HM.out j hlt).1).mono ?_
          cases h3:za9 6 l[j].args with
          | false=>
            rintro e w5 ⟨rfl,c5⟩;have hb5:=thenB hb4 c5;clear c5;go_wp2_with fail;go_ret;exact ⟨zaa (HF.out (by simp [h3])).symm,thenB hb hb5⟩
          | true=>
            rintro e w5 ⟨rfl,c5⟩;have B0:=K0.out.later c5;have B1:=K1.out.later c5;have B2:=K2.out.later c5;have hb5:=thenB hb4 c5;clear c5 K0 K1 K2;clear q0 q1 qz x0 x1 x2 x3 x4 x5 xz y0 y1 y2 y3 y4 y5 yz;obtain ⟨q0,q1,qz⟩:=B0.c2;obtain ⟨x0,x1,x2,x3,x4,x5,xz⟩:=B1.c6;obtain ⟨y0,y1,y2,y3,y4,y5,yz⟩:=B2.c6;have K0:Hid (Blk w5 w.heap.size [.map (some be),.map (some bs)]):=B0;have K1:Hid (Blk w5 wr.heap.size [.int .i64 l[j].op,.string l[j].mod,.string l[j].name,.slice a1 l[j].args.length p1,.slice a2 l[j].body.length p2,.slice a3 l[j].other.length p3]):=B1;have K2:Hid (Blk w5 (wr.heap.size+1) [.bool s.named,.bool s.number,.int .i64 s.least,.int .i64 s.most,.bool s.body,.bool s.other]):=B2;clear B0 B1 B2
            cases hbo:s.body with
            | false =>
              rw [hbo] at y4
              by_cases h4:0<l[j].body.length
              . go_wp2_with fail
                go_ret;exact ⟨zaa (HF.out (by simp [hbo,show ¬ l[j].body.length=0 from by omega])).symm,thenB hb hb5⟩
              . have HG : Hid ((s.body||decide (l[j].body.length=0))=true):=by show _=_;simp [show l[j].body.length=0 from by omega]
                cases hot:s.other with
                | false =>
                  rw [hot] at y5
                  by_cases h5:0<l[j].other.length
                  . go_wp2_with fail
                    go_ret;exact ⟨zaa (HF.out (by simp [hot,show ¬ l[j].other.length=0 from by omega])).symm,thenB hb hb5⟩
                  . have HO:Hid ((s.other||decide (l[j].other.length=0))=true):=by show _=_;simp [show l[j].other.length=0 from by omega]
                    go_wp2_with fail;refine (HI.out l[j].body a2 p2 _ (HX.out.body.later hb5) ((HS.out.later hb).later hb5) ((HU.out.later hb).later hb5) (HM.out j hlt).2.1).mono ?_
                    cases h7:zap k l[j].body with
                    | false=>
                      rintro e w6 ⟨rfl,c6⟩;have hb6:=thenB hb5 c6;clear c6;go_wp2_with fail;go_ret;exact ⟨zaa (HF.out (by simp [h7])).symm,thenB hb hb6⟩
                    | true=>
                      rintro e w6 ⟨rfl,c6⟩;have B0:=K0.out.later c6;have B1:=K1.out.later c6;have B2:=K2.out.later c6;have hb6:=thenB hb5 c6;clear c6 K0 K1 K2;clear q0 q1 qz x0 x1 x2 x3 x4 x5 xz y0 y1 y2 y3 y4 y5 yz;obtain ⟨q0,q1,qz⟩:=B0.c2;obtain ⟨x0,x1,x2,x3,x4,x5,xz⟩:=B1.c6;obtain ⟨y0,y1,y2,y3,y4,y5,yz⟩:=B2.c6;have K0:Hid (Blk w6 w.heap.size [.map (some be),.map (some bs)]):=B0;have K1:Hid (Blk w6 wr.heap.size [.int .i64 l[j].op,.string l[j].mod,.string l[j].name,.slice a1 l[j].args.length p1,.slice a2 l[j].body.length p2,.slice a3 l[j].other.length p3]):=B1;have K2:Hid (Blk w6 (wr.heap.size+1) [.bool s.named,.bool s.number,.int .i64 s.least,.int .i64 s.most,.bool s.body,.bool s.other]):=B2;clear B0 B1 B2;go_wp2_with fail;refine (HI.out l[j].other a3 p3 _ (HX.out.other.later hb6) ((HS.out.later hb).later hb6) ((HU.out.later hb).later hb6) (HM.out j hlt).2.2).mono ?_
                      cases h8:zap k l[j].other with
                      | false=>
                        rintro e w7 ⟨rfl,c7⟩;have hb7:=thenB hb6 c7;clear c7;go_wp2_with fail;go_ret;exact ⟨zaa (HF.out (by simp [h8])).symm,thenB hb hb7⟩
                      | true=>
                        rintro e w7 ⟨rfl,c7⟩;have K0':=K0.out.later c7;have hb7:=thenB hb6 c7;clear c7;have HT':Hid ((l.take (j+1)).all (fun s=>zci (stS s.op) s.mod s.name&&(za3 (stS s.op) s.args.length&&(za9 6 s.args&&(((stS s.op).body||decide (s.body.length=0))&&(((stS s.op).other||decide (s.other.length=0))&&(zap k s.body&&zap k s.other))))))=true):=HT.out (by rw [h1,h2,h3,HG.out,HO.out,h7,h8];rfl);go_wp2_with fail;go_roundw
                        case rel=>exact ⟨j+1,by omega,by go_num,HT'.out,thenB hb hb7,K0'⟩
                        case measure=>simp [intOf];omega
                | true=>
                  rw [hot] at y5
                  have HO:Hid ((s.other||decide (l[j].other.length=0))=true):=by show _=_;simp [hot]
                  go_wp2_with fail;refine (HI.out l[j].body a2 p2 _ (HX.out.body.later hb5) ((HS.out.later hb).later hb5) ((HU.out.later hb).later hb5) (HM.out j hlt).2.1).mono ?_
                  cases h7:zap k l[j].body with
                  | false=>
                    rintro e w6 ⟨rfl,c6⟩;have hb6:=thenB hb5 c6;clear c6;go_wp2_with fail;go_ret;exact ⟨zaa (HF.out (by simp [h7])).symm,thenB hb hb6⟩
                  | true=>
                    rintro e w6 ⟨rfl,c6⟩;have B0:=K0.out.later c6;have B1:=K1.out.later c6;have B2:=K2.out.later c6;have hb6:=thenB hb5 c6;clear c6 K0 K1 K2;clear q0 q1 qz x0 x1 x2 x3 x4 x5 xz y0 y1 y2 y3 y4 y5 yz;obtain ⟨q0,q1,qz⟩:=B0.c2;obtain ⟨x0,x1,x2,x3,x4,x5,xz⟩:=B1.c6;obtain ⟨y0,y1,y2,y3,y4,y5,yz⟩:=B2.c6;have K0:Hid (Blk w6 w.heap.size [.map (some be),.map (some bs)]):=B0;have K1:Hid (Blk w6 wr.heap.size [.int .i64 l[j].op,.string l[j].mod,.string l[j].name,.slice a1 l[j].args.length p1,.slice a2 l[j].body.length p2,.slice a3 l[j].other.length p3]):=B1;have K2:Hid (Blk w6 (wr.heap.size+1) [.bool s.named,.bool s.number,.int .i64 s.least,.int .i64 s.most,.bool s.body,.bool s.other]):=B2;clear B0 B1 B2;go_wp2_with fail;refine (HI.out l[j].other a3 p3 _ (HX.out.other.later hb6) ((HS.out.later hb).later hb6) ((HU.out.later hb).later hb6) (HM.out j hlt).2.2).mono ?_
                    cases h8:zap k l[j].other with
                    | false=>
                      rintro e w7 ⟨rfl,c7⟩;have hb7:=thenB hb6 c7;clear c7;go_wp2_with fail;go_ret;exact ⟨zaa (HF.out (by simp [h8])).symm,thenB hb hb7⟩
                    | true=>
                      rintro e w7 ⟨rfl,c7⟩;have K0':=K0.out.later c7;have hb7:=thenB hb6 c7;clear c7;have HT':Hid ((l.take (j+1)).all (fun s=>zci (stS s.op) s.mod s.name&&(za3 (stS s.op) s.args.length&&(za9 6 s.args&&(((stS s.op).body||decide (s.body.length=0))&&(((stS s.op).other||decide (s.other.length=0))&&(zap k s.body&&zap k s.other))))))=true):=HT.out (by rw [h1,h2,h3,HG.out,HO.out,h7,h8];rfl);go_wp2_with fail;go_roundw
                      case rel=>exact ⟨j+1,by omega,by go_num,HT'.out,thenB hb hb7,K0'⟩
                      case measure=>simp [intOf];omega
            | true=>
              rw [hbo] at y4
              have HG:Hid ((s.body||decide (l[j].body.length=0))=true):=by show _=_;simp [hbo]
              cases hot:s.other with
              | false =>
                rw [hot] at y5
                by_cases h5:0<l[j].other.length
                . go_wp2_with fail
                  go_ret;exact ⟨zaa (HF.out (by simp [hot,show ¬ l[j].other.length=0 from by omega])).symm,thenB hb hb5⟩
                . have HO:Hid ((s.other||decide (l[j].other.length=0))=true):=by show _=_;simp [show l[j].other.length=0 from by omega]
                  go_wp2_with fail;refine (HI.out l[j].body a2 p2 _ (HX.out.body.later hb5) ((HS.out.later hb).later hb5) ((HU.out.later hb).later hb5) (HM.out j hlt).2.1).mono ?_
                  cases h7:zap k l[j].body with
                  | false=>
                    rintro e w6 ⟨rfl,c6⟩;have hb6:=thenB hb5 c6;clear c6;go_wp2_with fail;go_ret;exact ⟨zaa (HF.out (by simp [h7])).symm,thenB hb hb6⟩
                  | true=>
                    rintro e w6 ⟨rfl,c6⟩;have B0:=K0.out.later c6;have B1:=K1.out.later c6;have B2:=K2.out.later c6;have hb6:=thenB hb5 c6;clear c6 K0 K1 K2;clear q0 q1 qz x0 x1 x2 x3 x4 x5 xz y0 y1 y2 y3 y4 y5 yz;obtain ⟨q0,q1,qz⟩:=B0.c2;obtain ⟨x0,x1,x2,x3,x4,x5,xz⟩:=B1.c6;obtain ⟨y0,y1,y2,y3,y4,y5,yz⟩:=B2.c6;have K0:Hid (Blk w6 w.heap.size [.map (some be),.map (some bs)]):=B0;have K1:Hid (Blk w6 wr.heap.size [.int .i64 l[j].op,.string l[j].mod,.string l[j].name,.slice a1 l[j].args.length p1,.slice a2 l[j].body.length p2,.slice a3 l[j].other.length p3]):=B1;have K2:Hid (Blk w6 (wr.heap.size+1) [.bool s.named,.bool s.number,.int .i64 s.least,.int .i64 s.most,.bool s.body,.bool s.other]):=B2;clear B0 B1 B2;go_wp2_with fail;refine (HI.out l[j].other a3 p3 _ (HX.out.other.later hb6) ((HS.out.later hb).later hb6) ((HU.out.later hb).later hb6) (HM.out j hlt).2.2).mono ?_
                    cases h8:zap k l[j].other with
                    | false=>
                      rintro e w7 ⟨rfl,c7⟩;have hb7:=thenB hb6 c7;clear c7;go_wp2_with fail;go_ret;exact ⟨zaa (HF.out (by simp [h8])).symm,thenB hb hb7⟩
                    | true=>
                      rintro e w7 ⟨rfl,c7⟩;have K0':=K0.out.later c7;have hb7:=thenB hb6 c7;clear c7;have HT':Hid ((l.take (j+1)).all (fun s=>zci (stS s.op) s.mod s.name&&(za3 (stS s.op) s.args.length&&(za9 6 s.args&&(((stS s.op).body||decide (s.body.length=0))&&(((stS s.op).other||decide (s.other.length=0))&&(zap k s.body&&zap k s.other))))))=true):=HT.out (by rw [h1,h2,h3,HG.out,HO.out,h7,h8];rfl);go_wp2_with fail;go_roundw
                      case rel=>exact ⟨j+1,by omega,by go_num,HT'.out,thenB hb hb7,K0'⟩
                      case measure=>simp [intOf];omega
              | true=>
                rw [hot] at y5
                have HO:Hid ((s.other||decide (l[j].other.length=0))=true):=by show _=_;simp [hot]
                go_wp2_with fail;refine (HI.out l[j].body a2 p2 _ (HX.out.body.later hb5) ((HS.out.later hb).later hb5) ((HU.out.later hb).later hb5) (HM.out j hlt).2.1).mono ?_
                cases h7:zap k l[j].body with
                | false=>
                  rintro e w6 ⟨rfl,c6⟩;have hb6:=thenB hb5 c6;clear c6;go_wp2_with fail;go_ret;exact ⟨zaa (HF.out (by simp [h7])).symm,thenB hb hb6⟩
                | true=>
                  rintro e w6 ⟨rfl,c6⟩;have B0:=K0.out.later c6;have B1:=K1.out.later c6;have B2:=K2.out.later c6;have hb6:=thenB hb5 c6;clear c6 K0 K1 K2;clear q0 q1 qz x0 x1 x2 x3 x4 x5 xz y0 y1 y2 y3 y4 y5 yz;obtain ⟨q0,q1,qz⟩:=B0.c2;obtain ⟨x0,x1,x2,x3,x4,x5,xz⟩:=B1.c6;obtain ⟨y0,y1,y2,y3,y4,y5,yz⟩:=B2.c6;have K0:Hid (Blk w6 w.heap.size [.map (some be),.map (some bs)]):=B0;have K1:Hid (Blk w6 wr.heap.size [.int .i64 l[j].op,.string l[j].mod,.string l[j].name,.slice a1 l[j].args.length p1,.slice a2 l[j].body.length p2,.slice a3 l[j].other.length p3]):=B1;have K2:Hid (Blk w6 (wr.heap.size+1) [.bool s.named,.bool s.number,.int .i64 s.least,.int .i64 s.most,.bool s.body,.bool s.other]):=B2;clear B0 B1 B2;go_wp2_with fail;refine (HI.out l[j].other a3 p3 _ (HX.out.other.later hb6) ((HS.out.later hb).later hb6) ((HU.out.later hb).later hb6) (HM.out j hlt).2.2).mono ?_
                  cases h8:zap k l[j].other with
                  | false=>
                    rintro e w7 ⟨rfl,c7⟩;have hb7:=thenB hb6 c7;clear c7;go_wp2_with fail;go_ret;exact ⟨zaa (HF.out (by simp [h8])).symm,thenB hb hb7⟩
                  | true=>
                    rintro e w7 ⟨rfl,c7⟩;have K0':=K0.out.later c7;have hb7:=thenB hb6 c7;clear c7;have HT':Hid ((l.take (j+1)).all (fun s=>zci (stS s.op) s.mod s.name&&(za3 (stS s.op) s.args.length&&(za9 6 s.args&&(((stS s.op).body||decide (s.body.length=0))&&(((stS s.op).other||decide (s.other.length=0))&&(zap k s.body&&zap k s.other))))))=true):=HT.out (by rw [h1,h2,h3,HG.out,HO.out,h7,h8];rfl);go_wp2_with fail;go_roundw
                    case rel=>exact ⟨j+1,by omega,by go_num,HT'.out,thenB hb hb7,K0'⟩
                    case measure=>simp [intOf];omega
    . have HT:Hid (l.all (fun s=>zci (stS s.op) s.mod s.name&&(za3 (stS s.op) s.args.length&&(za9 6 s.args&&(((stS s.op).body||decide (s.body.length=0))&&(((stS s.op).other||decide (s.other.length=0))&&(zap k s.body&&zap k s.other))))))=true):=zb1 HA.out hlt
      go_wp2_with fail;go_ret;exact ⟨zaa (by rw [HR.out,HT.out]),hb⟩
set_option maxHeartbeats 800000
abbrev Tt:Nat->Prop:=fun _=>True
theorem Tryz.infoBody:(Tryz.prog.info? 25).map (fun i=>(i.zero,i.size,i.bytes))=some (some (.slice none 0 0),1,24):=by kernel_rfl
def zrt (w:World) (xs:List Value) (bs:List (List St)):Prop:=xs.length=bs.length/\∀ i (h:i<bs.length),∃ a c,xs[i]? = some (.slice a bs[i].length c)/\DAt w Tt a bs[i].length (zbj bs[i])
theorem zrt.later {w w':World} {xs:List Value} {bs:List (List St)} (h:zrt w xs bs) (hb:Below w.heap.size w w'):zrt w' xs bs:=
 ⟨h.1,fun i hi=>by obtain ⟨a,c,h1,h2⟩:=h.2 i hi;exact ⟨a,c,h1,h2.later hb⟩⟩
theorem zrt.nil (w:World):zrt w [] []:=⟨rfl,fun i h=>by simp at h⟩
theorem zrt.snoc {w:World} {xs:List Value} {bs:List (List St)} (h:zrt w xs bs) {l:List St} {a:OA} {c:Nat} (hd:DAt w Tt a l.length (zbj l)):zrt w (xs++[.slice a l.length c]) (bs++[l]):=by
 refine ⟨by simp [h.1],fun i hi=>?_⟩
 rcases vbe i bs.length with hlt | hge
 . obtain ⟨a',c',h1,h2⟩:=h.2 i hlt
   refine ⟨a',c',?_,?_⟩
   . rw [vaw (by rw [h.1];exact hlt),vau hlt];exact h1
   . rw [vau hlt];exact h2
 . have:i=bs.length:=by simp at hi;omega
   subst this;refine ⟨a,c,?_,?_⟩
   . rw [vbb (by rw [h.1];exact vaa _),h.1];simp
   . simpa using hd
def zmy (w:World) (a:OA) (bs:List (List St)):Prop:=∀ i (h:i<bs.length),∃ b off a' c',a=some ⟨b,off,none⟩/\b<w.heap.size/\w.cell? ⟨b,off+i,none⟩=some (.slice a' bs[i].length c')/\DAt w Tt a' bs[i].length (zbj bs[i])
theorem zmy.later {w w':World} {a:OA} {bs:List (List St)} (h:zmy w a bs) (hb:Below w.heap.size w w'):zmy w' a bs:=fun i hi=>by
 obtain ⟨b,off,a',c',h1,h2,h3,h4⟩:=h i hi;exact ⟨b,off,a',c',h1,vac h2 hb.size,(hb.cell (p:=⟨b,off+i,none⟩) h2).trans h3,h4.later hb⟩
theorem zrt.at {w:World} {base g n cap:Nat} {xs:List Value} {bs:List (List St)} (h:zrt w xs bs) (hown:w.ownsRow base 25 1 (.slice (some ⟨g,0,none⟩) n cap) n xs):zmy w (some ⟨g,0,none⟩) bs:=by
 intro i hi;obtain ⟨a',c',h1,h2⟩:=h.2 i hi;have hc:=hown.cells (g:=g) rfl i _ h1;have hlt:=(hown.lt g rfl).2
 have e:(⟨g,0,none⟩:Addr).add i=⟨g,i,none⟩:=by unfold Addr.add;split<;>simp_all
 rw [e] at hc;exact ⟨g,0,a',c',rfl,hlt,by rw [vbc];exact hc,h2⟩
theorem Blk.grown {w w':World} {b:Nat} {cs:List Value} {row:Option Nat} (h:Blk w b cs) (hg:w.grownBy w' row) (hne:some b≠row):Blk w' b cs:=
 ⟨vac h.lt hg.size,fun j v hj=>(veh (w:=w) (hg.block b h.lt hne)).trans (h.cell j v hj)⟩
theorem ztj (w:World) (v:Value) (t:TypeId) (n:Nat) (hn:n=w.heap.size):∀ j u,[v][j]? = some u->(w.alloc (.cells #[v] t)).cell? ((⟨n,0,none⟩:Addr).add j)=some u:=by
 subst hn;intro j u hj
 have e:(⟨w.heap.size,0,none⟩:Addr).add j=⟨w.heap.size,j,none⟩:=by unfold Addr.add;split<;>simp_all
 rw [e];exact (Blk.new w #[v] t).cell j u hj
theorem zhe (m:Mo) (v:Value) (a1:OA) (c1:Nat) (a2:OA) (c2:Nat) (a3:OA) (c3:Nat) (a4:OA) (c4:Nat) (w:World) (hM:MoAt w Tt m v a1 c1 a2 c2 a3 c3 a4 c4) :
 Calls Tryz.prog 183 #[v] w fun e w'=>∃ a cap,e = .returned (.slice a m.bodies.length cap)/\zmy w' a m.bodies/\Below w.heap.size w w':=by
 obtain ⟨rfl,hna,hU,hDe,hP,hMa⟩:=hM;obtain ⟨i0,hi,hz0,hz1,hz2⟩:=info_parts Tryz.infoBody
 have hbd:m.procs.length<=3518437208883:=by
  have h1:=hP.2.1
  have h2:(zg1 m.procs).length=m.procs.length*5:=by
   unfold zg1;rw [List.length_flatMap]
   have:∀ l:List Pr,(l.map (fun x=>x.ds.length)).sum=l.length*5:=by
    intro l
    induction l with
    | nil=>rfl
    | cons x r ih=>rw [vcl,List.sum_cons,ih,vat];have:x.ds.length=5:=rfl;omega
   exact this _
  omega
 have HP:Hid (DAt w Tt a3 m.procs.length (zg1 m.procs)):=hP;have HM:Hid (DAt w Tt a4 m.main.length (zbj m.main)):=hMa;clear hU hDe hP hMa;go_enter Tryz.func183,Tryz.ntmps183;go_wp2_with fail;have HB:=Blk.new w #[.string m.name,.slice a1 m.uses.length c1,.slice a2 m.decls.length c2,.slice a3 m.procs.length c3,.slice a4 m.main.length c4] 27
 go_loopw [9,3] (fun i v wr=>∃ (j:Nat) (xs:List Value),j<=m.procs.length/\i = .int .i64 j/\wr.ownsRow (w.heap.size+1) 25 1 v j xs/\zrt w xs ((m.procs.take j).map Pr.body)/\Below w.heap.size w wr/\Blk wr w.heap.size [.string m.name,.slice a1 m.uses.length c1,.slice a2 m.decls.length c2,.slice a3 m.procs.length c3,.slice a4 m.main.length c4]) (fun i _ _=>m.procs.length - (intOf i).toNat)
 case atStart=>exact ⟨0,[],vad _,rfl,vei _ _ _ _,zrt.nil _,al1 _ _,HB⟩
 case round=>
  clear HB;obtain ⟨j,xs,hj,rfl,hown,hBo,hb,hB⟩:=hrel;have HO:Hid (wr.ownsRow (w.heap.size+1) 25 1 u3 j xs):=hown;have HQ:Hid (zrt w xs ((m.procs.take j).map Pr.body)):=hBo;have HB:Hid (Blk wr w.heap.size [.string m.name,.slice a1 m.uses.length c1,.slice a2 m.decls.length c2,.slice a3 m.procs.length c3,.slice a4 m.main.length c4]):=hB;have HL:Hid (∀ k,u3.ownBlock=some k->w.heap.size+1<=k/\k<wr.heap.size):=hown.lt;obtain ⟨q0,q1,q2,q3,q4,qz⟩:=hB.c5;clear hown hBo hB
  by_cases hlt:j<m.procs.length
  . obtain ⟨b,off,b1,d1,b2,d2,b3,d3,rfl,hx⟩:=(HP.out.later hb).pr j hlt
    have hc0:=hx.c0;have hc1:=hx.c1;have hc2:=hx.c2;have hc3:=hx.c3;have hc4:=hx.c4;have hlb:=hx.lt
    have HX:Hid (DAt w Tt b3 m.procs[j].body.length (zbj m.procs[j].body)):=by
     obtain ⟨b',off',b1',d1',b2',d2',b3',d3',e,hx'⟩:=HP.out.pr j hlt
     injection e with e
     injection e with e1 e2
     subst e1;subst e2;have h4:=(hb.cell (p:=⟨b,off+j*5+4,none⟩) hx'.lt).trans hx'.c4;rw [hx.c4] at h4
     injection h4 with h4
     injection h4 with h4 _ _
     subst h4;exact hx'.body
    have HS:Hid ((m.procs.take (j+1)).map Pr.body=(m.procs.take j).map Pr.body++[m.procs[j].body]):=by
     show _=_
     rw [vaf hlt,vce];rfl
    clear hx
    go_wp2_with (at_builtin;refine wpList_append_lies _ rfl _ _ 271 rfl (w.heap.size+1) 25 i0 _ 1 24 Tryz.underlying271 hi hz0 hz1 hz2 rfl (by decide) _ j xs rfl ((HO.out.alloc _).alloc _) _ 1 1 [.slice b3 m.procs[j].body.length d3] rfl rfl (ztj _ _ _ _ (by simp)) (by simp [Value.oneCell']) (by omega) (by unfold maxLen;omega) (by omega) (by simp;omega) _ rfl ?_;intro g cp w2 hown2 hg2 hat2 hlt2)
    have hg:wr.grownBy w2 u3.ownBlock:=((vem wr _ _).trans (vem _ _ _)).trans hg2;have hb2:Below w.heap.size w w2:=hb.grown hg hb.size (fun k hk=>by have:=(HL.out k hk).1;omega);have K2:=HB.out.grown hg (fun e=>by have:=(HL.out _ e.symm).1;omega);clear hg2 hat2 hg;go_roundw
    case rel=>exact ⟨j+1,xs++[.slice b3 m.procs[j].body.length d3],by omega,by go_num,hown2,by rw [HS.out];exact HQ.out.snoc HX.out,hb2,K2⟩
    case measure=>simp [intOf];omega
  . have hje:j=m.procs.length:=by omega
    subst hje
    have HS:Hid (m.bodies=(m.procs.take m.procs.length).map Pr.body++[m.main]):=by show _=_;rw [vaz];rfl
    have HN:Hid (m.bodies.length=m.procs.length+1):=by show _=_;simp [Mo.bodies]
    go_wp2_with (at_builtin;refine wpList_append_lies _ rfl _ _ 271 rfl (w.heap.size+1) 25 i0 _ 1 24 Tryz.underlying271 hi hz0 hz1 hz2 rfl (by decide) _ m.procs.length xs rfl (HO.out.alloc _) _ 1 1 [.slice a4 m.main.length c4] rfl rfl (ztj _ _ _ _ (by simp)) (by simp [Value.oneCell']) (by omega) (by unfold maxLen;omega) (by omega) (by simp;omega) _ rfl ?_;intro g cp w2 hown2 hg2 hat2 hlt2)
    have hg:wr.grownBy w2 u3.ownBlock:=(vem wr _ _).trans hg2;have hb2:Below w.heap.size w w2:=hb.grown hg hb.size (fun k hk=>by have:=(HL.out k hk).1;omega);clear hg2 hat2 hg;go_ret;refine ⟨some ⟨g,0,none⟩,cp,?_,?_,hb2⟩
    . rw [HN.out];rfl
    have:=(HQ.out.snoc (c:=c4) HM.out).later hb2;rw [HS.out];exact this.at hown2
theorem zon (s:ByteArray) (w:World) (hs:s.size<=maxLen) :
 Calls Tryz.prog 240 #[.string s] w fun e w'=>e = .returned (.bool (!nameOk s))/\Below w.heap.size w w':=by
 go_enter Tryz.func240,Tryz.ntmps240
 go_wp2_with (go_at_call 186;refine (zc7 s _ hs).mono ?_;rintro e w' ⟨rfl,hb⟩)
 go_ret;exact ⟨rfl,hb⟩
theorem zjw (l:List ByteArray) (a:OA) (cap:Nat) (w:World) (hD:DAt w Tt a l.length (zal l)) :
 Calls Tryz.prog 279 #[.slice a l.length cap,.func (.func 240) #[] #[]] w fun e w'=>∃ n:Int,e = .returned (.int .i64 n)/\decide (0<=n) = !l.all nameOk/\Below w.heap.size w w':=by
 have hbd:=hD.bound;have HD:Hid (DAt w Tt a l.length (zal l)):=hD;clear hD;go_enter Tryz.func279,Tryz.ntmps279;go_wp2_with fail
 go_loopw [8] (fun i wr=>∃ j:Nat,j<=l.length/\i = .int .i64 j/\(l.take j).all nameOk=true/\Below w.heap.size w wr) (fun i _=>l.length - (intOf i).toNat)
 case atStart=>exact ⟨0,vad _,rfl,rfl,Below.refl _ _⟩
 case round=>
  obtain ⟨j,hj,rfl,hall,hb⟩:=hrel;have HA:Hid ((l.take j).all nameOk=true):=hall;clear hall
  by_cases hlt:j<l.length
  . obtain ⟨b,off,rfl,hlb,hc,hsz⟩:=(HD.out.later hb).str j hlt
    go_wp2_with fail;refine (zon l[j] _ hsz).mono ?_
    cases hn:nameOk l[j] with
    | false=>
      have HF:Hid (l.all nameOk=false):=all_not l _ j hlt hn;rintro e w3 ⟨rfl,hb3⟩;go_wp2_with fail;go_ret;exact ⟨j,rfl,by rw [HF.out];simp,thenB hb hb3⟩
    | true=>
      have HT:Hid ((l.take (j+1)).all nameOk=true):=by
       show _=_
       rw [all_snoc l _ j hlt,HA.out,hn];rfl
      rintro e w3 ⟨rfl,hb3⟩;go_wp2_with fail;go_roundw
      case rel=>exact ⟨j+1,by omega,by go_num,HT.out,thenB hb hb3⟩
      case measure=>simp [intOf];omega
  . have HT:Hid (l.all nameOk=true):=zb1 HA.out hlt
    go_wp2_with fail;go_ret;exact ⟨-1,rfl,by rw [HT.out];rfl,hb⟩
theorem ze1 (l:List ByteArray) (a:OA) (cap:Nat) (w:World) (hD:DAt w Tt a l.length (zal l)) :
 Calls Tryz.prog 187 #[.slice a l.length cap] w fun e w'=>e = .returned (.bool (l.all nameOk))/\Below w.heap.size w w':=by
 have HC:Hid (Calls Tryz.prog 239 #[.slice a l.length cap,.func (.func 240) #[] #[]] w fun e w'=>e = .returned (.bool (!l.all nameOk))/\Below w.heap.size w w'):=by
  have HI:Hid (Calls Tryz.prog 279 #[.slice a l.length cap,.func (.func 240) #[] #[]] w fun e w'=>∃ n:Int,e = .returned (.int .i64 n)/\decide (0<=n) = !l.all nameOk/\Below w.heap.size w w'):=zjw l a cap w hD;clear hD;show Calls _ _ _ _ _;go_enter Tryz.func239,Tryz.ntmps239
  go_wp2_with (go_at_call 279;refine HI.out.mono ?_;rintro e w' ⟨n,rfl,hn,hb⟩)
  go_ret;exact ⟨rfl,hb⟩
 clear hD;go_enter Tryz.func187,Tryz.ntmps187
 go_wp2_with (go_at_call 239;refine HC.out.mono ?_;rintro e w' ⟨rfl,hb⟩)
 go_ret;exact ⟨zaa (by simp),hb⟩
end Go.Proofs.YtndkhgakfodldaaGreatDoor
