/-
  stmtLook, level 3: no name.
-/
import Derived.Test.YtcekpobmbmnplaaGreatDoorRc
namespace Go.Proofs.YtcekpobmbmnplaaGreatDoor
set_option maxRecDepth 100000
set_option maxHeartbeats 8000000
open Go.RowKit Go.Maps
theorem zs1 (A:Nat->Prop) (k:Nat) (op:Int) (mod name:ByteArray) (l:List Ex) (bd ot:List St) (aa ab ac:Option Addr) (cap cab cac:Nat) (deep:Int) (w:World) (hbd:l.length<=17592186044416) (hd1:1<=deep) (hd6:deep<=6)
 (HI:Hid (∀ (l:List St) (a:Option Addr) (cap:Nat) (w:World),DAt w A a l.length (za0 l)->Calls Tryz.prog 45 #[.slice a l.length cap,.int .i64 3,.int .i64 (deep+1)] w fun e w'=>e = .returned (.bool (bL 3 k l))/\Below w.heap.size w w'))
 (HD:Hid (DAt w A aa l.length (zaw l))) (HDb:Hid (DAt w A ab bd.length (za0 bd))) (HDo:Hid (DAt w A ac ot.length (za0 ot))) (_HWm:Hid (mod.size<=maxLen)) (_HWn:Hid (name.size<=maxLen))
 (hR:inB op 1 3=false) (hm:mod.toList.isEmpty=true) (hn:name.toList.isEmpty=true) :
 Calls Tryz.prog 81 #[.agg #[.int .i64 op,.string mod,.string name,.slice aa l.length cap,.slice ab bd.length cab,.slice ac ot.length cac],.int .i64 3,.int .i64 deep] w fun e w'=>e = .returned (.bool (sL 3 k (St.mk op mod name l bd ot)))/\Below w.heap.size w w':=by
 have HR:Hid (∀ {b:Bool},(zi1 3 (St.mk op mod name l bd ot)||(l.any (eL 3 6)||(((op == 4||op == 5)||decide (0<bd.length))&&bL 3 k bd||(decide (0<ot.length)&&bL 3 k ot))))=b->b=sL 3 k (St.mk op mod name l bd ot)):=fun h=>by rw [← h];rfl
 have HBx:Hid (Blk (w.alloc (.cells #[.int .i64 op,.string mod,.string name,.slice aa l.length cap,.slice ab bd.length cab,.slice ac ot.length cac] 47)) w.heap.size [.int .i64 op,.string mod,.string name,.slice aa l.length cap,.slice ab bd.length cab,.slice ac ot.length cac]):=Blk.new w _ _;have HB0:Hid (Below w.heap.size w (w.alloc (.cells #[.int .i64 op,.string mod,.string name,.slice aa l.length cap,.slice ab bd.length cab,.slice ac ot.length cac] 47))):=al1 _ _;have HC:Hid (zi1 3 (St.mk op mod name l bd ot)=((inB op 1 3 && !zd0 mod name)||(!inB op 1 3&&(!mod.toList.isEmpty || !name.toList.isEmpty))||(decide (0<=stN op)&&((l.length:Int) != stN op))||(op != 4&&op != 5&&decide (0<bd.length))||(op != 4&&decide (0<ot.length)))):=rfl;generalize hCC:zi1 3 (St.mk op mod name l bd ot)=C at HC HR;clear hCC;go_enter Tryz.func81,Tryz.ntmps81
 go_upto_region 9 with fail;generalize hW0:w.alloc (.cells #[.int .i64 op,.string mod,.string name,.slice aa l.length cap,.slice ab bd.length cab,.slice ac ot.length cac] 47)=W0 at *;clear hW0
 go_cut [92] (fun v wc=>v = .bool C/\Hid (Below W0.heap.size W0 wc))
 case first=>
  clear HD HDb HDo HI HR HB0;obtain ⟨x0,x1,x2,x3,x4,x5,xz⟩:=HBx.out.c6;have HBz:Hid (Below W0.heap.size W0 W0.drew):=(Below.refl _ _).drew;generalize hq:stN op=q at *;simp only [List.append_eq,List.cons_append,List.nil_append]
  have hq1:q=1:=by rw [← hq];unfold stN;rw [if_neg (by intro e;subst e;simp [inB] at hR),if_neg (by intro e;subst e;simp [inB] at hR)]
  subst hq1
  cases hl:((l.length:Int) != 1) with
  | true=>
    have HE:Hid (C=true):=by show _=_;rw [HC.out];simp [hR,hm,hn,hl]
    go_quiet ((first | (go_at_call 112;exact Calls.quiet_of_same (zba hR _)) | (go_at_call 114;exact Calls.quiet_of_same (zbe hq _))))
    go_wp2_with fail;go_meet;exact ⟨by rw [HE.out],za6 _ _⟩
  | false =>
    cases h4:(op != 4) with
    | false=>
      have HE:Hid (C=false):=by show _=_;rw [HC.out];simp [hR,hm,hn,hl,h4]
      go_quiet ((first | (go_at_call 112;exact Calls.quiet_of_same (zba hR _)) | (go_at_call 114;exact Calls.quiet_of_same (zbe hq _))))
      go_wp2_with fail;go_meet;exact ⟨by rw [HE.out],za6 _ _⟩
    | true=>
      cases h5:(op != 5) with
      | false=>
        have HE:Hid (C=decide (0<ot.length)):=by show _=_;rw [HC.out];simp [hR,hm,hn,hl,h4,h5]
        go_quiet ((first | (go_at_call 112;exact Calls.quiet_of_same (zba hR _)) | (go_at_call 114;exact Calls.quiet_of_same (zbe hq _))))
        go_wp2_with fail;go_meet;exact ⟨by rw [HE.out],za6 _ _⟩
      | true=>
        cases hb:decide (0<bd.length) with
        | true=>
          have HE:Hid (C=true):=by show _=_;rw [HC.out];simp [hR,hm,hn,hl,h4,h5,hb]
          go_quiet ((first | (go_at_call 112;exact Calls.quiet_of_same (zba hR _)) | (go_at_call 114;exact Calls.quiet_of_same (zbe hq _))))
          go_wp2_with fail;go_meet;exact ⟨by rw [HE.out],za6 _ _⟩
        | false=>
          have HE:Hid (C=decide (0<ot.length)):=by show _=_;rw [HC.out];simp [hR,hm,hn,hl,h4,h5,hb]
          go_quiet ((first | (go_at_call 112;exact Calls.quiet_of_same (zba hR _)) | (go_at_call 114;exact Calls.quiet_of_same (zbe hq _))))
          go_wp2_with fail;go_meet;exact ⟨by rw [HE.out],za6 _ _⟩
 case rest =>
  obtain ⟨rfl,HBc⟩:=hcut;have HB0':Hid (Below w.heap.size w wc):=zab HB0.out HBc.out;have HBx':Hid (Blk wc w.heap.size [.int .i64 op,.string mod,.string name,.slice aa l.length cap,.slice ab bd.length cab,.slice ac ot.length cac]):=HBx.out.later HBc.out;clear HB0 HBx HBc HC;have HB0:=HB0';have HBx:=HBx';clear HB0' HBx';obtain ⟨x0,x1,x2,x3,x4,x5,xz⟩:=HBx.out.c6;clear x0 x1 x2 x4 x5
  cases hCb:C with
  | true=>
    subst hCb;go_wp2_with fail;go_ret;exact ⟨zaa (HR.out rfl),HB0.out⟩
  | false =>
    subst hCb;go_wp2_with fail
    go_loopw [7] (fun i wr=>∃ j:Nat,j<=l.length/\i = .int .i64 j/\(l.take j).any (eL 3 6)=false/\Below w.heap.size w wr/\Blk wr w.heap.size [.int .i64 op,.string mod,.string name,.slice aa l.length cap,.slice ab bd.length cab,.slice ac ot.length cac]) (fun i _=>l.length - (intOf i).toNat)
    case atStart=>exact ⟨0,Nat.zero_le _,rfl,rfl,HB0.out,HBx.out⟩
    case round =>
     obtain ⟨j,hj,rfl,hall,hb,hB⟩:=hrel;clear HBx HB0;clear x3 xz;obtain ⟨q0,q1,q2,q3,q4,q5,qz⟩:=hB.c6;clear q1 q2;have HB:Hid (Blk wr w.heap.size [.int .i64 op,.string mod,.string name,.slice aa l.length cap,.slice ab bd.length cab,.slice ac ot.length cac]):=hB;have HA:Hid ((l.take j).any (eL 3 6)=false):=hall;clear hall hB
     by_cases hlt:j<l.length
     . obtain ⟨b,off,a2,cp,rfl,hx⟩:=(HD.out.later hb).ex j hlt
       have hc0:=hx.c0;have hc1:=hx.c1;have hc2:=hx.c2;have hc3:=hx.c3;have hc4:=hx.c4;have hlb:=hx.lt;have HX:Hid (ExAt wr A b (off+j*5) l[j] a2 cp):=hx;clear hx;go_wp2_with fail;refine (zcs A 6 (by omega) 3 (by omega) l[j] a2 cp 1 _ (by omega) HX.out.args HX.out.wm HX.out.wna).mono ?_
       cases hr:eL 3 6 l[j] with
       | true=>
         have HF:Hid (l.any (eL 3 6)=true):=zbw l _ j hlt hr;rintro e w3 ⟨rfl,hb3⟩;go_wp2_with fail;go_ret;exact ⟨zaa (HR.out (by rw [HF.out];simp)),zab hb hb3⟩
       | false=>
         have HT:Hid ((l.take (j+1)).any (eL 3 6)=false):=by
          show _=_
          rw [za1 l _ j hlt,HA.out,hr];rfl
         rintro e w3 ⟨rfl,hb3⟩;go_wp2_with fail;go_roundw
         case rel=>exact ⟨j+1,by omega,by go_num,HT.out,zab hb hb3,HB.out.later hb3⟩
         case measure=>simp [intOf];omega
     . have HT : Hid (l.any (eL 3 6)=false):=zbq HA.out hlt
       have HS:Hid (∀ {b:Bool},(((op == 4||op == 5)||decide (0<bd.length))&&bL 3 k bd||(decide (0<ot.length)&&bL 3 k ot))=b->b=sL 3 k (St.mk op mod name l bd ot)):=fun h=>HR.out (by rw [HT.out,Bool.false_or,Bool.false_or];exact h)
       clear HR HT HA HD;have HDb':Hid (DAt wr A ab bd.length (za0 bd)):=HDb.out.later hb;have HDo':Hid (DAt wr A ac ot.length (za0 ot)):=HDo.out.later hb;clear HDb HDo
       cases h4:(op == 4) with
       | true=>
         go_wp2_with fail;refine (HI.out bd ab cab _ HDb'.out).mono ?_
         cases hr1:bL 3 k bd with
         | true=>
           rintro e w4 ⟨rfl,c1⟩;go_wp2_with fail;go_ret;exact ⟨zaa (HS.out (by simp [hr1,h4])),zab hb c1⟩
         | false=>
           rintro e w4 ⟨rfl,c1⟩;clear q0 q3 q4 q5 qz;obtain ⟨q0,q1,q2,q3,q4,q5,qz⟩:=(HB.out.later c1).c6;clear q0 q1 q2 q3 q4
           by_cases ho:0<ot.length
           . go_wp2_with fail
             refine (HI.out ot ac cac _ (HDo'.out.later c1)).mono ?_
             cases hr2:bL 3 k ot with
             | true=>
               rintro e w5 ⟨rfl,c2⟩;go_wp2_with fail;go_ret;exact ⟨zaa (HS.out (by simp [hr2,ho])),zab (zab hb c1) c2⟩
             | false=>
               rintro e w5 ⟨rfl,c2⟩;go_wp2_with fail;go_ret;exact ⟨zaa (HS.out (by simp [hr2,hr1])),zab (zab hb c1) c2⟩
           . go_wp2_with fail
             go_ret;exact ⟨zaa (HS.out (by simp [ho,hr1])),(zab hb c1)⟩
       | false =>
         cases h5:(op == 5) with
         | true=>
           go_wp2_with fail;refine (HI.out bd ab cab _ HDb'.out).mono ?_
           cases hr1:bL 3 k bd with
           | true=>
             rintro e w4 ⟨rfl,c1⟩;go_wp2_with fail;go_ret;exact ⟨zaa (HS.out (by simp [hr1,h4,h5])),zab hb c1⟩
           | false=>
             rintro e w4 ⟨rfl,c1⟩;clear q0 q3 q4 q5 qz;obtain ⟨q0,q1,q2,q3,q4,q5,qz⟩:=(HB.out.later c1).c6;clear q0 q1 q2 q3 q4
             by_cases ho:0<ot.length
             . go_wp2_with fail
               refine (HI.out ot ac cac _ (HDo'.out.later c1)).mono ?_
               cases hr2:bL 3 k ot with
               | true=>
                 rintro e w5 ⟨rfl,c2⟩;go_wp2_with fail;go_ret;exact ⟨zaa (HS.out (by simp [hr2,ho])),zab (zab hb c1) c2⟩
               | false=>
                 rintro e w5 ⟨rfl,c2⟩;go_wp2_with fail;go_ret;exact ⟨zaa (HS.out (by simp [hr2,hr1])),zab (zab hb c1) c2⟩
             . go_wp2_with fail
               go_ret;exact ⟨zaa (HS.out (by simp [ho,hr1])),(zab hb c1)⟩
         | false =>
           by_cases hb0:0<bd.length
           . skip
             go_wp2_with fail;refine (HI.out bd ab cab _ HDb'.out).mono ?_
             cases hr1:bL 3 k bd with
             | true=>
               rintro e w4 ⟨rfl,c1⟩;go_wp2_with fail;go_ret;exact ⟨zaa (HS.out (by simp [hr1,h4,h5,hb0])),zab hb c1⟩
             | false=>
               rintro e w4 ⟨rfl,c1⟩;clear q0 q3 q4 q5 qz;obtain ⟨q0,q1,q2,q3,q4,q5,qz⟩:=(HB.out.later c1).c6;clear q0 q1 q2 q3 q4
               by_cases ho:0<ot.length
               . go_wp2_with fail
                 refine (HI.out ot ac cac _ (HDo'.out.later c1)).mono ?_
                 cases hr2:bL 3 k ot with
                 | true=>
                   rintro e w5 ⟨rfl,c2⟩;go_wp2_with fail;go_ret;exact ⟨zaa (HS.out (by simp [hr2,ho])),zab (zab hb c1) c2⟩
                 | false=>
                   rintro e w5 ⟨rfl,c2⟩;go_wp2_with fail;go_ret;exact ⟨zaa (HS.out (by simp [hr2,hr1])),zab (zab hb c1) c2⟩
               . go_wp2_with fail
                 go_ret;exact ⟨zaa (HS.out (by simp [ho,hr1])),(zab hb c1)⟩
           . skip
             by_cases ho:0<ot.length
             . go_wp2_with fail
               refine (HI.out ot ac cac _ HDo'.out).mono ?_
               cases hr2:bL 3 k ot with
               | true=>
                 rintro e w5 ⟨rfl,c2⟩;go_wp2_with fail;go_ret;exact ⟨zaa (HS.out (by simp [hr2,ho])),zab hb c2⟩
               | false=>
                 rintro e w5 ⟨rfl,c2⟩;go_wp2_with fail;go_ret;exact ⟨zaa (HS.out (by simp [hr2,h4,h5,hb0])),zab hb c2⟩
             . go_wp2_with fail
               go_ret;exact ⟨zaa (HS.out (by simp [ho,h4,h5,hb0])),hb⟩
end Go.Proofs.YtcekpobmbmnplaaGreatDoor

namespace Go.Proofs.YtcekpobmbmnplaaGreatDoor
set_option maxRecDepth 100000
set_option maxHeartbeats 8000000
open Go.RowKit Go.Maps
theorem zs2 (A:Nat->Prop) (k:Nat) (op:Int) (mod name:ByteArray) (l:List Ex) (bd ot:List St) (aa ab ac:Option Addr) (cap cab cac:Nat) (deep:Int) (w:World) (hbd:l.length<=17592186044416) (hd1:1<=deep) (hd6:deep<=6)
 (HI:Hid (∀ (l:List St) (a:Option Addr) (cap:Nat) (w:World),DAt w A a l.length (za0 l)->Calls Tryz.prog 45 #[.slice a l.length cap,.int .i64 3,.int .i64 (deep+1)] w fun e w'=>e = .returned (.bool (bL 3 k l))/\Below w.heap.size w w'))
 (HD:Hid (DAt w A aa l.length (zaw l))) (HDb:Hid (DAt w A ab bd.length (za0 bd))) (HDo:Hid (DAt w A ac ot.length (za0 ot))) (HWm:Hid (mod.size<=maxLen)) (HWn:Hid (name.size<=maxLen))
 (hR:inB op 1 3=true) (hf:zd0 mod name=false) :
 Calls Tryz.prog 81 #[.agg #[.int .i64 op,.string mod,.string name,.slice aa l.length cap,.slice ab bd.length cab,.slice ac ot.length cac],.int .i64 3,.int .i64 deep] w fun e w'=>e = .returned (.bool (sL 3 k (St.mk op mod name l bd ot)))/\Below w.heap.size w w':=by
 have HR:Hid (∀ {b:Bool},(zi1 3 (St.mk op mod name l bd ot)||(l.any (eL 3 6)||(((op == 4||op == 5)||decide (0<bd.length))&&bL 3 k bd||(decide (0<ot.length)&&bL 3 k ot))))=b->b=sL 3 k (St.mk op mod name l bd ot)):=fun h=>by rw [← h];rfl
 have HBx:Hid (Blk (w.alloc (.cells #[.int .i64 op,.string mod,.string name,.slice aa l.length cap,.slice ab bd.length cab,.slice ac ot.length cac] 47)) w.heap.size [.int .i64 op,.string mod,.string name,.slice aa l.length cap,.slice ab bd.length cab,.slice ac ot.length cac]):=Blk.new w _ _;have HB0:Hid (Below w.heap.size w (w.alloc (.cells #[.int .i64 op,.string mod,.string name,.slice aa l.length cap,.slice ab bd.length cab,.slice ac ot.length cac] 47))):=al1 _ _;have HC:Hid (zi1 3 (St.mk op mod name l bd ot)=((inB op 1 3 && !zd0 mod name)||(!inB op 1 3&&(!mod.toList.isEmpty || !name.toList.isEmpty))||(decide (0<=stN op)&&((l.length:Int) != stN op))||(op != 4&&op != 5&&decide (0<bd.length))||(op != 4&&decide (0<ot.length)))):=rfl;generalize hCC:zi1 3 (St.mk op mod name l bd ot)=C at HC HR;clear hCC;go_enter Tryz.func81,Tryz.ntmps81
 go_upto_region 9 with fail;generalize hW0:w.alloc (.cells #[.int .i64 op,.string mod,.string name,.slice aa l.length cap,.slice ab bd.length cab,.slice ac ot.length cac] 47)=W0 at *;clear hW0
 go_cut [92] (fun v wc=>v = .bool C/\Hid (Below W0.heap.size W0 wc))
 case first=>
  clear HD HDb HDo HI HR HB0;obtain ⟨x0,x1,x2,x3,x4,x5,xz⟩:=HBx.out.c6;have HBz:Hid (Below W0.heap.size W0 W0.drew):=(Below.refl _ _).drew;generalize hq:stN op=q at *;simp only [List.append_eq,List.cons_append,List.nil_append]
  have HE:Hid (C=true):=by show _=_;rw [HC.out];simp [hR,hf]
  refine wp_region_held_drew (S:=(fun W=>W.cell? ⟨w.heap.size,0,none⟩=some (.int .i64 op)/\W.cell? ⟨w.heap.size,1,none⟩=some (.string mod)/\W.cell? ⟨w.heap.size,2,none⟩=some (.string name)/\W.cell? ⟨w.heap.size,3,none⟩=some (.slice aa l.length cap)/\W.cell? ⟨w.heap.size,4,none⟩=some (.slice ab bd.length cab)/\W.cell? ⟨w.heap.size,5,none⟩=some (.slice ac ot.length cac))) (by kernel_rfl) ?_ (fun hHeld=>?_)
  . (try dsimp only);go_keep
  refine tq 0 24 hHeld ?_;(try simp only [Act.put,sx]);refine tq 1 25 hHeld ?_;(try simp only [Act.put,sx])
  refine wpAnyH_ready (rs:=[2]) (by kernel_rfl) (by simp) ?_;refine AllReadyH.cons rfl (fun K hK=>?_) AllReadyH.nil;go_simp
  go_wp2_with (go_at_call 112;refine (zba hR _).mono ?_;rintro e w' ⟨rfl,rfl⟩)
  refine hK.out _ _ hHeld (fun hHeld=>?_);clear hK K
  refine tq 3 27 hHeld ?_;(try simp only [Act.put,sx]);refine tq 4 28 hHeld ?_;(try simp only [Act.put,sx]);refine tq 5 29 hHeld ?_;(try simp only [Act.put,sx]);refine tq 6 30 hHeld ?_;(try simp only [Act.put,sx]);refine tq 7 31 hHeld ?_;(try simp only [Act.put,sx])
  refine wpAnyH_ready (rs:=[8]) (by kernel_rfl) (by simp) ?_;refine AllReadyH.cons rfl (fun K hK=>?_) AllReadyH.nil;go_simp
  go_wp2_with (go_at_call 113;refine (zcq hf _ HWm.out HWn.out).mono ?_;rintro e w' ⟨rfl,hb⟩)
  have FF:=bx6 HBx HBz hb;clear hb;refine hK.out _ _ FF.out.2 (fun hHeld=>?_);clear hK K
  refine tq 9 33 hHeld ?_;(try simp only [Act.put,sx]);refine tq 10 34 hHeld ?_;(try simp only [Act.put,sx]);refine tq 11 35 hHeld ?_;(try simp only [Act.put,sx]);refine tu 12 36 hHeld ?_;(try simp only [Act.put,sx]);refine tu 13 37 hHeld ?_;(try simp only [Act.put,sx]);refine tu 14 38 hHeld ?_;(try simp only [Act.put,sx]);refine tu 15 39 hHeld ?_;(try simp only [Act.put,sx]);refine tu 16 40 hHeld ?_;(try simp only [Act.put,sx]);refine tu 17 41 hHeld ?_;(try simp only [Act.put,sx]);refine tu 18 42 hHeld ?_;(try simp only [Act.put,sx]);refine tu 19 43 hHeld ?_;(try simp only [Act.put,sx]);refine tu 20 44 hHeld ?_;(try simp only [Act.put,sx]);refine tu 21 45 hHeld ?_;(try simp only [Act.put,sx]);refine tu 22 46 hHeld ?_;(try simp only [Act.put,sx]);refine tu 23 47 hHeld ?_;(try simp only [Act.put,sx]);refine tu 24 48 hHeld ?_;(try simp only [Act.put,sx]);refine tu 25 49 hHeld ?_;(try simp only [Act.put,sx]);refine tq 26 50 hHeld ?_;(try simp only [Act.put,sx]);refine tq 27 51 hHeld ?_;(try simp only [Act.put,sx]);refine tu 28 52 hHeld ?_;(try simp only [Act.put,sx]);refine tu 29 53 hHeld ?_;(try simp only [Act.put,sx]);refine tu 30 54 hHeld ?_;(try simp only [Act.put,sx]);refine tu 31 55 hHeld ?_;(try simp only [Act.put,sx]);refine tu 32 56 hHeld ?_;(try simp only [Act.put,sx]);refine tu 33 57 hHeld ?_;(try simp only [Act.put,sx]);refine tu 34 58 hHeld ?_;(try simp only [Act.put,sx]);refine tu 35 59 hHeld ?_;(try simp only [Act.put,sx]);refine tu 36 60 hHeld ?_;(try simp only [Act.put,sx]);refine tu 37 61 hHeld ?_;(try simp only [Act.put,sx]);refine tu 38 62 hHeld ?_;(try simp only [Act.put,sx]);refine tu 39 63 hHeld ?_;(try simp only [Act.put,sx]);refine tu 40 64 hHeld ?_;(try simp only [Act.put,sx]);refine tq 41 65 hHeld ?_;(try simp only [Act.put,sx]);refine tq 42 66 hHeld ?_;(try simp only [Act.put,sx]);refine tu 43 67 hHeld ?_;(try simp only [Act.put,sx]);refine tu 44 68 hHeld ?_;(try simp only [Act.put,sx]);refine tu 45 69 hHeld ?_;(try simp only [Act.put,sx]);refine tu 46 70 hHeld ?_;(try simp only [Act.put,sx]);refine tu 47 71 hHeld ?_;(try simp only [Act.put,sx]);refine tu 48 72 hHeld ?_;(try simp only [Act.put,sx]);refine tu 49 73 hHeld ?_;(try simp only [Act.put,sx]);refine tu 50 74 hHeld ?_;(try simp only [Act.put,sx]);refine tu 51 75 hHeld ?_;(try simp only [Act.put,sx]);refine tu 52 76 hHeld ?_;(try simp only [Act.put,sx]);refine tu 53 77 hHeld ?_;(try simp only [Act.put,sx]);refine tu 54 78 hHeld ?_;(try simp only [Act.put,sx]);refine tu 55 79 hHeld ?_;(try simp only [Act.put,sx]);refine tu 56 80 hHeld ?_;(try simp only [Act.put,sx]);refine tq 57 81 hHeld ?_;(try simp only [Act.put,sx]);refine tq 58 82 hHeld ?_;(try simp only [Act.put,sx]);refine tu 59 83 hHeld ?_;(try simp only [Act.put,sx]);refine tu 60 84 hHeld ?_;(try simp only [Act.put,sx]);refine tu 61 85 hHeld ?_;(try simp only [Act.put,sx])
  refine tu 62 86 hHeld ?_;(try simp only [Act.put,sx]);refine tu 63 87 hHeld ?_;(try simp only [Act.put,sx]);refine tu 64 88 hHeld ?_;(try simp only [Act.put,sx]);refine tu 65 89 hHeld ?_;(try simp only [Act.put,sx]);refine tu 66 90 hHeld ?_;(try simp only [Act.put,sx]);refine tu 67 91 hHeld ?_;(try simp only [Act.put,sx]);refine tq 68 92 hHeld ?_;(try simp only [Act.put,sx])
  refine wpAnyH_done (by kernel_rfl) ?_ _;go_wp2_with fail;go_meet;exact ⟨by rw [HE.out],zvy FF⟩
 case rest =>
  obtain ⟨rfl,HBc⟩:=hcut;have HB0':Hid (Below w.heap.size w wc):=zab HB0.out HBc.out;have HBx':Hid (Blk wc w.heap.size [.int .i64 op,.string mod,.string name,.slice aa l.length cap,.slice ab bd.length cab,.slice ac ot.length cac]):=HBx.out.later HBc.out;clear HB0 HBx HBc HC;have HB0:=HB0';have HBx:=HBx';clear HB0' HBx';obtain ⟨x0,x1,x2,x3,x4,x5,xz⟩:=HBx.out.c6;clear x0 x1 x2 x4 x5
  cases hCb:C with
  | true=>
    subst hCb;go_wp2_with fail;go_ret;exact ⟨zaa (HR.out rfl),HB0.out⟩
  | false =>
    subst hCb;go_wp2_with fail
    go_loopw [7] (fun i wr=>∃ j:Nat,j<=l.length/\i = .int .i64 j/\(l.take j).any (eL 3 6)=false/\Below w.heap.size w wr/\Blk wr w.heap.size [.int .i64 op,.string mod,.string name,.slice aa l.length cap,.slice ab bd.length cab,.slice ac ot.length cac]) (fun i _=>l.length - (intOf i).toNat)
    case atStart=>exact ⟨0,Nat.zero_le _,rfl,rfl,HB0.out,HBx.out⟩
    case round =>
     obtain ⟨j,hj,rfl,hall,hb,hB⟩:=hrel;clear HBx HB0;clear x3 xz;obtain ⟨q0,q1,q2,q3,q4,q5,qz⟩:=hB.c6;clear q1 q2;have HB:Hid (Blk wr w.heap.size [.int .i64 op,.string mod,.string name,.slice aa l.length cap,.slice ab bd.length cab,.slice ac ot.length cac]):=hB;have HA:Hid ((l.take j).any (eL 3 6)=false):=hall;clear hall hB
     by_cases hlt:j<l.length
     . obtain ⟨b,off,a2,cp,rfl,hx⟩:=(HD.out.later hb).ex j hlt
       have hc0:=hx.c0;have hc1:=hx.c1;have hc2:=hx.c2;have hc3:=hx.c3;have hc4:=hx.c4;have hlb:=hx.lt;have HX:Hid (ExAt wr A b (off+j*5) l[j] a2 cp):=hx;clear hx;go_wp2_with fail;refine (zcs A 6 (by omega) 3 (by omega) l[j] a2 cp 1 _ (by omega) HX.out.args HX.out.wm HX.out.wna).mono ?_
       cases hr:eL 3 6 l[j] with
       | true=>
         have HF:Hid (l.any (eL 3 6)=true):=zbw l _ j hlt hr;rintro e w3 ⟨rfl,hb3⟩;go_wp2_with fail;go_ret;exact ⟨zaa (HR.out (by rw [HF.out];simp)),zab hb hb3⟩
       | false=>
         have HT:Hid ((l.take (j+1)).any (eL 3 6)=false):=by
          show _=_
          rw [za1 l _ j hlt,HA.out,hr];rfl
         rintro e w3 ⟨rfl,hb3⟩;go_wp2_with fail;go_roundw
         case rel=>exact ⟨j+1,by omega,by go_num,HT.out,zab hb hb3,HB.out.later hb3⟩
         case measure=>simp [intOf];omega
     . have HT : Hid (l.any (eL 3 6)=false):=zbq HA.out hlt
       have HS:Hid (∀ {b:Bool},(((op == 4||op == 5)||decide (0<bd.length))&&bL 3 k bd||(decide (0<ot.length)&&bL 3 k ot))=b->b=sL 3 k (St.mk op mod name l bd ot)):=fun h=>HR.out (by rw [HT.out,Bool.false_or,Bool.false_or];exact h)
       clear HR HT HA HD;have HDb':Hid (DAt wr A ab bd.length (za0 bd)):=HDb.out.later hb;have HDo':Hid (DAt wr A ac ot.length (za0 ot)):=HDo.out.later hb;clear HDb HDo
       cases h4:(op == 4) with
       | true=>
         go_wp2_with fail;refine (HI.out bd ab cab _ HDb'.out).mono ?_
         cases hr1:bL 3 k bd with
         | true=>
           rintro e w4 ⟨rfl,c1⟩;go_wp2_with fail;go_ret;exact ⟨zaa (HS.out (by simp [hr1,h4])),zab hb c1⟩
         | false=>
           rintro e w4 ⟨rfl,c1⟩;clear q0 q3 q4 q5 qz;obtain ⟨q0,q1,q2,q3,q4,q5,qz⟩:=(HB.out.later c1).c6;clear q0 q1 q2 q3 q4
           by_cases ho:0<ot.length
           . go_wp2_with fail
             refine (HI.out ot ac cac _ (HDo'.out.later c1)).mono ?_
             cases hr2:bL 3 k ot with
             | true=>
               rintro e w5 ⟨rfl,c2⟩;go_wp2_with fail;go_ret;exact ⟨zaa (HS.out (by simp [hr2,ho])),zab (zab hb c1) c2⟩
             | false=>
               rintro e w5 ⟨rfl,c2⟩;go_wp2_with fail;go_ret;exact ⟨zaa (HS.out (by simp [hr2,hr1])),zab (zab hb c1) c2⟩
           . go_wp2_with fail
             go_ret;exact ⟨zaa (HS.out (by simp [ho,hr1])),(zab hb c1)⟩
       | false =>
         cases h5:(op == 5) with
         | true=>
           go_wp2_with fail;refine (HI.out bd ab cab _ HDb'.out).mono ?_
           cases hr1:bL 3 k bd with
           | true=>
             rintro e w4 ⟨rfl,c1⟩;go_wp2_with fail;go_ret;exact ⟨zaa (HS.out (by simp [hr1,h4,h5])),zab hb c1⟩
           | false=>
             rintro e w4 ⟨rfl,c1⟩;clear q0 q3 q4 q5 qz;obtain ⟨q0,q1,q2,q3,q4,q5,qz⟩:=(HB.out.later c1).c6;clear q0 q1 q2 q3 q4
             by_cases ho:0<ot.length
             . go_wp2_with fail
               refine (HI.out ot ac cac _ (HDo'.out.later c1)).mono ?_
               cases hr2:bL 3 k ot with
               | true=>
                 rintro e w5 ⟨rfl,c2⟩;go_wp2_with fail;go_ret;exact ⟨zaa (HS.out (by simp [hr2,ho])),zab (zab hb c1) c2⟩
               | false=>
                 rintro e w5 ⟨rfl,c2⟩;go_wp2_with fail;go_ret;exact ⟨zaa (HS.out (by simp [hr2,hr1])),zab (zab hb c1) c2⟩
             . go_wp2_with fail
               go_ret;exact ⟨zaa (HS.out (by simp [ho,hr1])),(zab hb c1)⟩
         | false =>
           by_cases hb0:0<bd.length
           . skip
             go_wp2_with fail;refine (HI.out bd ab cab _ HDb'.out).mono ?_
             cases hr1:bL 3 k bd with
             | true=>
               rintro e w4 ⟨rfl,c1⟩;go_wp2_with fail;go_ret;exact ⟨zaa (HS.out (by simp [hr1,h4,h5,hb0])),zab hb c1⟩
             | false=>
               rintro e w4 ⟨rfl,c1⟩;clear q0 q3 q4 q5 qz;obtain ⟨q0,q1,q2,q3,q4,q5,qz⟩:=(HB.out.later c1).c6;clear q0 q1 q2 q3 q4
               by_cases ho:0<ot.length
               . go_wp2_with fail
                 refine (HI.out ot ac cac _ (HDo'.out.later c1)).mono ?_
                 cases hr2:bL 3 k ot with
                 | true=>
                   rintro e w5 ⟨rfl,c2⟩;go_wp2_with fail;go_ret;exact ⟨zaa (HS.out (by simp [hr2,ho])),zab (zab hb c1) c2⟩
                 | false=>
                   rintro e w5 ⟨rfl,c2⟩;go_wp2_with fail;go_ret;exact ⟨zaa (HS.out (by simp [hr2,hr1])),zab (zab hb c1) c2⟩
               . go_wp2_with fail
                 go_ret;exact ⟨zaa (HS.out (by simp [ho,hr1])),(zab hb c1)⟩
           . skip
             by_cases ho:0<ot.length
             . go_wp2_with fail
               refine (HI.out ot ac cac _ HDo'.out).mono ?_
               cases hr2:bL 3 k ot with
               | true=>
                 rintro e w5 ⟨rfl,c2⟩;go_wp2_with fail;go_ret;exact ⟨zaa (HS.out (by simp [hr2,ho])),zab hb c2⟩
               | false=>
                 rintro e w5 ⟨rfl,c2⟩;go_wp2_with fail;go_ret;exact ⟨zaa (HS.out (by simp [hr2,h4,h5,hb0])),zab hb c2⟩
             . go_wp2_with fail
               go_ret;exact ⟨zaa (HS.out (by simp [ho,h4,h5,hb0])),hb⟩
end Go.Proofs.YtcekpobmbmnplaaGreatDoor
