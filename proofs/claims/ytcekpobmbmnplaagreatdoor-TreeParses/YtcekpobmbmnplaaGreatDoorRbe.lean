/-
  exprLook, level 3: a name that is none.
-/
import Derived.Test.YtcekpobmbmnplaaGreatDoorRb
namespace Go.Proofs.YtcekpobmbmnplaaGreatDoor
set_option maxRecDepth 100000
set_option maxHeartbeats 8000000
open Go.RowKit Go.Maps
theorem zsz (A:Nat->Prop) (k:Nat) (op n:Int) (mod name:ByteArray) (l:List Ex) (aa:Option Addr) (cap:Nat) (deep:Int) (w:World) (hbd:l.length<=17592186044416) (hd1:1<=deep) (hd6:deep<=6)
 (HI:Hid (∀ (x:Ex) (aa:Option Addr) (cap:Nat) (w:World),DAt w A aa x.args.length (zaw x.args)->x.mod.size<=maxLen->x.name.size<=maxLen->
   Calls Tryz.prog 115 #[.agg #[.int .i64 x.op,.int .i64 x.n,.string x.mod,.string x.name,.slice aa x.args.length cap],.int .i64 3,.int .i64 (deep+1)] w fun e w'=>e = .returned (.bool (eL 3 k x))/\Below w.heap.size w w'))
 (HD:Hid (DAt w A aa l.length (zaw l))) (HWm:Hid (mod.size<=maxLen)) (HWn:Hid (name.size<=maxLen))
 (hR:inB op 3 5=true) (hf:zd0 mod name=false) :
 Calls Tryz.prog 115 #[.agg #[.int .i64 op,.int .i64 n,.string mod,.string name,.slice aa l.length cap],.int .i64 3,.int .i64 deep] w fun e w'=>e = .returned (.bool (eL 3 (k+1) (.mk op n mod name l)))/\Below w.heap.size w w':=by
 have HR:Hid (∀ {b:Bool},(zi0 3 (.mk op n mod name l)||l.any (eL 3 k))=b->b=eL 3 (k+1) (.mk op n mod name l)):=fun h=>by rw [← h];simp [eL,Ex.args]
 have HBx:Hid (Blk (w.alloc (.cells #[.int .i64 op,.int .i64 n,.string mod,.string name,.slice aa l.length cap] 76)) w.heap.size [.int .i64 op,.int .i64 n,.string mod,.string name,.slice aa l.length cap]):=Blk.new w _ _;have HB0:Hid (Below w.heap.size w (w.alloc (.cells #[.int .i64 op,.int .i64 n,.string mod,.string name,.slice aa l.length cap] 76))):=al1 _ _;have HC:Hid (zi0 3 (.mk op n mod name l)=((inB op 3 5 && !zd0 mod name)||(!inB op 3 5&&(!mod.toList.isEmpty || !name.toList.isEmpty))||(op == 1 && !inB n 0 1099511627775)||(op != 1&&n != 0)||(decide (0<=exN op)&&((l.length:Int) != exN op)))):=rfl;generalize hCC:zi0 3 (.mk op n mod name l)=C at HC HR;clear hCC;go_enter Tryz.func115,Tryz.ntmps115;go_upto_region 11 with fail;generalize hW0:w.alloc (.cells #[.int .i64 op,.int .i64 n,.string mod,.string name,.slice aa l.length cap] 76)=W0 at *
 clear hW0
 go_cut [89] (fun v wc=>v = .bool C/\Hid (Below W0.heap.size W0 wc))
 case first=>
  clear HD HI HR HB0;obtain ⟨x0,x1,x2,x3,x4,xz⟩:=HBx.out.c5;have HBz:Hid (Below W0.heap.size W0 W0.drew):=(Below.refl _ _).drew;generalize hq:exN op=q at *;have ho1:(op == 1)=false:=beq_eq_false_iff_ne.2 (by simp [inB] at hR;omega)
  have ho2:(op != 1)=true:=by simp only [bne,ho1];rfl
  have HE:Hid (C=true):=by show _=_;rw [HC.out];simp [hR,hf]
  refine wp_region_held_drew (S:=(fun W=>W.cell? ⟨w.heap.size,0,none⟩=some (.int .i64 op)/\W.cell? ⟨w.heap.size,1,none⟩=some (.int .i64 n)/\W.cell? ⟨w.heap.size,2,none⟩=some (.string mod)/\W.cell? ⟨w.heap.size,3,none⟩=some (.string name)/\W.cell? ⟨w.heap.size,4,none⟩=some (.slice aa l.length cap))) (by kernel_rfl) ?_ (fun hHeld=>?_)
  . (try dsimp only);go_keep
  refine tq 0 27 hHeld ?_;(try simp only [Act.put,sx]);refine tq 1 28 hHeld ?_;(try simp only [Act.put,sx])
  refine wpAnyH_ready (rs:=[2]) (by kernel_rfl) (by simp) ?_;refine AllReadyH.cons rfl (fun K hK=>?_) AllReadyH.nil;go_simp
  go_wp2_with (go_at_call 128;refine (za9 hR _).mono ?_;rintro e w' ⟨rfl,rfl⟩)
  refine hK.out _ _ hHeld (fun hHeld=>?_);clear hK K
  refine tq 3 30 hHeld ?_;(try simp only [Act.put,sx]);refine tq 4 31 hHeld ?_;(try simp only [Act.put,sx]);refine tq 5 32 hHeld ?_;(try simp only [Act.put,sx]);refine tq 6 33 hHeld ?_;(try simp only [Act.put,sx]);refine tq 7 34 hHeld ?_;(try simp only [Act.put,sx])
  refine wpAnyH_ready (rs:=[8]) (by kernel_rfl) (by simp) ?_;refine AllReadyH.cons rfl (fun K hK=>?_) AllReadyH.nil;go_simp
  go_wp2_with (go_at_call 113;refine (zcq hf _ HWm.out HWn.out).mono ?_;rintro e w' ⟨rfl,hb⟩)
  have FF:=bx5 HBx HBz hb;clear hb;refine hK.out _ _ FF.out.2 (fun hHeld=>?_);clear hK K
  refine tq 9 36 hHeld ?_;(try simp only [Act.put,sx]);refine tq 10 37 hHeld ?_;(try simp only [Act.put,sx]);refine tq 11 38 hHeld ?_;(try simp only [Act.put,sx]);refine tu 12 39 hHeld ?_;(try simp only [Act.put,sx]);refine tu 13 40 hHeld ?_;(try simp only [Act.put,sx]);refine tu 14 41 hHeld ?_;(try simp only [Act.put,sx]);refine tu 15 42 hHeld ?_;(try simp only [Act.put,sx]);refine tu 16 43 hHeld ?_;(try simp only [Act.put,sx]);refine tu 17 44 hHeld ?_;(try simp only [Act.put,sx]);refine tu 18 45 hHeld ?_;(try simp only [Act.put,sx]);refine tu 19 46 hHeld ?_;(try simp only [Act.put,sx]);refine tu 20 47 hHeld ?_;(try simp only [Act.put,sx]);refine tu 21 48 hHeld ?_;(try simp only [Act.put,sx]);refine tu 22 49 hHeld ?_;(try simp only [Act.put,sx]);refine tu 23 50 hHeld ?_;(try simp only [Act.put,sx]);refine tu 24 51 hHeld ?_;(try simp only [Act.put,sx]);refine tu 25 52 hHeld ?_;(try simp only [Act.put,sx]);refine tq 26 53 hHeld ?_;(try simp only [Act.put,sx]);refine tq 27 54 hHeld ?_;(try simp only [Act.put,sx]);refine tu 28 55 hHeld ?_;(try simp only [Act.put,sx]);refine tu 29 56 hHeld ?_;(try simp only [Act.put,sx]);refine tu 30 57 hHeld ?_;(try simp only [Act.put,sx]);refine tu 31 58 hHeld ?_;(try simp only [Act.put,sx]);refine tu 32 59 hHeld ?_;(try simp only [Act.put,sx]);refine tu 33 60 hHeld ?_;(try simp only [Act.put,sx]);refine tu 34 61 hHeld ?_;(try simp only [Act.put,sx]);refine tu 35 62 hHeld ?_;(try simp only [Act.put,sx]);refine tu 36 63 hHeld ?_;(try simp only [Act.put,sx]);refine tq 37 64 hHeld ?_;(try simp only [Act.put,sx]);refine tq 38 65 hHeld ?_;(try simp only [Act.put,sx]);refine tu 39 66 hHeld ?_;(try simp only [Act.put,sx]);refine tu 40 67 hHeld ?_;(try simp only [Act.put,sx]);refine tu 41 68 hHeld ?_;(try simp only [Act.put,sx]);refine tu 42 69 hHeld ?_;(try simp only [Act.put,sx]);refine tu 43 70 hHeld ?_;(try simp only [Act.put,sx]);refine tu 44 71 hHeld ?_;(try simp only [Act.put,sx]);refine tu 45 72 hHeld ?_;(try simp only [Act.put,sx]);refine tu 46 73 hHeld ?_;(try simp only [Act.put,sx]);refine tq 47 74 hHeld ?_;(try simp only [Act.put,sx]);refine tq 48 75 hHeld ?_;(try simp only [Act.put,sx]);refine tu 49 76 hHeld ?_;(try simp only [Act.put,sx]);refine tu 50 77 hHeld ?_;(try simp only [Act.put,sx]);refine tu 51 78 hHeld ?_;(try simp only [Act.put,sx]);refine tu 52 79 hHeld ?_;(try simp only [Act.put,sx]);refine tu 53 80 hHeld ?_;(try simp only [Act.put,sx]);refine tu 54 81 hHeld ?_;(try simp only [Act.put,sx]);refine tu 55 82 hHeld ?_;(try simp only [Act.put,sx]);refine tu 56 83 hHeld ?_;(try simp only [Act.put,sx]);refine tu 57 84 hHeld ?_;(try simp only [Act.put,sx]);refine tu 58 85 hHeld ?_;(try simp only [Act.put,sx]);refine tu 59 86 hHeld ?_;(try simp only [Act.put,sx]);refine tu 60 87 hHeld ?_;(try simp only [Act.put,sx]);refine tu 61 88 hHeld ?_;(try simp only [Act.put,sx])
  refine tq 62 89 hHeld ?_;(try simp only [Act.put,sx])
  refine wpAnyH_done (by kernel_rfl) ?_ _;go_wp2_with fail;go_meet;exact ⟨by rw [HE.out],zvy FF⟩
 case rest=>
  obtain ⟨rfl,HBc⟩:=hcut;have HB0':Hid (Below w.heap.size w wc):=zab HB0.out HBc.out;have HBx':Hid (Blk wc w.heap.size [.int .i64 op,.int .i64 n,.string mod,.string name,.slice aa l.length cap]):=HBx.out.later HBc.out;clear HB0 HBx HBc HC;have HB0:=HB0';have HBx:=HBx';clear HB0' HBx';have x4:=HBx.out.cell 4 _ rfl;have xz:=HBx.out.lt
  cases hCb:C with
  | true=>
    subst hCb;go_wp2_with fail;go_ret;exact ⟨zaa (HR.out rfl),HB0.out⟩
  | false =>
    subst hCb;go_wp2_with fail
    go_loopw [7] (fun i wr=>∃ j:Nat,j<=l.length/\i = .int .i64 j/\(l.take j).any (eL 3 k)=false/\Below w.heap.size w wr/\Blk wr w.heap.size [.int .i64 op,.int .i64 n,.string mod,.string name,.slice aa l.length cap]) (fun i _=>l.length - (intOf i).toNat)
    case atStart=>exact ⟨0,Nat.zero_le _,rfl,rfl,HB0.out,HBx.out⟩
    case round=>
     obtain ⟨j,hj,rfl,hall,hb,hB⟩:=hrel;clear HBx HB0;clear x4 xz;have q4:=hB.cell 4 _ rfl;have qz:=hB.lt;have HB:Hid (Blk wr w.heap.size [.int .i64 op,.int .i64 n,.string mod,.string name,.slice aa l.length cap]):=hB;have HA:Hid ((l.take j).any (eL 3 k)=false):=hall;clear hall hB
     by_cases hlt:j<l.length
     . obtain ⟨b,off,a2,cp,rfl,hx⟩:=(HD.out.later hb).ex j hlt
       have hc0:=hx.c0;have hc1:=hx.c1;have hc2:=hx.c2;have hc3:=hx.c3;have hc4:=hx.c4;have hlb:=hx.lt;have HX:Hid (ExAt wr A b (off+j*5) l[j] a2 cp):=hx;clear hx;go_wp2_with fail;refine (HI.out l[j] a2 cp _ HX.out.args HX.out.wm HX.out.wna).mono ?_
       cases hr:eL 3 k l[j] with
       | true=>
         have HF:Hid (l.any (eL 3 k)=true):=zbw l _ j hlt hr;rintro e w3 ⟨rfl,hb3⟩;go_wp2_with fail;go_ret;exact ⟨zaa (HR.out (by rw [HF.out,Bool.or_true])),zab hb hb3⟩
       | false=>
         have HT:Hid ((l.take (j+1)).any (eL 3 k)=false):=by
          show _=_
          rw [za1 l _ j hlt,HA.out,hr];rfl
         rintro e w3 ⟨rfl,hb3⟩;go_wp2_with fail;go_roundw
         case rel=>exact ⟨j+1,by omega,by go_num,HT.out,zab hb hb3,HB.out.later hb3⟩
         case measure=>simp [intOf];omega
     . have HT:Hid (l.any (eL 3 k)=false):=zbq HA.out hlt
       go_wp2_with fail;go_ret;exact ⟨zaa (HR.out (by rw [HT.out];rfl)),hb⟩
end Go.Proofs.YtcekpobmbmnplaaGreatDoor

namespace Go.Proofs.YtcekpobmbmnplaaGreatDoor
set_option maxRecDepth 100000
set_option maxHeartbeats 8000000
open Go.RowKit Go.Maps
theorem zs0 (A:Nat->Prop) (k:Nat) (op n:Int) (mod name:ByteArray) (l:List Ex) (aa:Option Addr) (cap:Nat) (deep:Int) (w:World) (hbd:l.length<=17592186044416) (hd1:1<=deep) (hd6:deep<=6)
 (HI:Hid (∀ (x:Ex) (aa:Option Addr) (cap:Nat) (w:World),DAt w A aa x.args.length (zaw x.args)->x.mod.size<=maxLen->x.name.size<=maxLen->
   Calls Tryz.prog 115 #[.agg #[.int .i64 x.op,.int .i64 x.n,.string x.mod,.string x.name,.slice aa x.args.length cap],.int .i64 3,.int .i64 (deep+1)] w fun e w'=>e = .returned (.bool (eL 3 k x))/\Below w.heap.size w w'))
 (HD:Hid (DAt w A aa l.length (zaw l))) (HWm:Hid (mod.size<=maxLen)) (HWn:Hid (name.size<=maxLen))
 (hR:inB op 3 5=true) (hf:zd0 mod name=true) :
 Calls Tryz.prog 115 #[.agg #[.int .i64 op,.int .i64 n,.string mod,.string name,.slice aa l.length cap],.int .i64 3,.int .i64 deep] w fun e w'=>e = .returned (.bool (eL 3 (k+1) (.mk op n mod name l)))/\Below w.heap.size w w':=by
 have HR:Hid (∀ {b:Bool},(zi0 3 (.mk op n mod name l)||l.any (eL 3 k))=b->b=eL 3 (k+1) (.mk op n mod name l)):=fun h=>by rw [← h];simp [eL,Ex.args]
 have HBx:Hid (Blk (w.alloc (.cells #[.int .i64 op,.int .i64 n,.string mod,.string name,.slice aa l.length cap] 76)) w.heap.size [.int .i64 op,.int .i64 n,.string mod,.string name,.slice aa l.length cap]):=Blk.new w _ _;have HB0:Hid (Below w.heap.size w (w.alloc (.cells #[.int .i64 op,.int .i64 n,.string mod,.string name,.slice aa l.length cap] 76))):=al1 _ _;have HC:Hid (zi0 3 (.mk op n mod name l)=((inB op 3 5 && !zd0 mod name)||(!inB op 3 5&&(!mod.toList.isEmpty || !name.toList.isEmpty))||(op == 1 && !inB n 0 1099511627775)||(op != 1&&n != 0)||(decide (0<=exN op)&&((l.length:Int) != exN op)))):=rfl;generalize hCC:zi0 3 (.mk op n mod name l)=C at HC HR;clear hCC;go_enter Tryz.func115,Tryz.ntmps115;go_upto_region 11 with fail;generalize hW0:w.alloc (.cells #[.int .i64 op,.int .i64 n,.string mod,.string name,.slice aa l.length cap] 76)=W0 at *
 clear hW0
 go_cut [89] (fun v wc=>v = .bool C/\Hid (Below W0.heap.size W0 wc))
 case first=>
  clear HD HI HR HB0;obtain ⟨x0,x1,x2,x3,x4,xz⟩:=HBx.out.c5;have HBz:Hid (Below W0.heap.size W0 W0.drew):=(Below.refl _ _).drew;generalize hq:exN op=q at *;have ho1:(op == 1)=false:=beq_eq_false_iff_ne.2 (by simp [inB] at hR;omega)
  have ho2:(op != 1)=true:=by simp only [bne,ho1];rfl
  cases hN:(n != 0) with
  | true=>
    have HE:Hid (C=true):=by show _=_;rw [HC.out];simp [hR,hf,ho1,ho2,hN]
    refine wp_region_held_drew (S:=(fun W=>W.cell? ⟨w.heap.size,0,none⟩=some (.int .i64 op)/\W.cell? ⟨w.heap.size,1,none⟩=some (.int .i64 n)/\W.cell? ⟨w.heap.size,2,none⟩=some (.string mod)/\W.cell? ⟨w.heap.size,3,none⟩=some (.string name)/\W.cell? ⟨w.heap.size,4,none⟩=some (.slice aa l.length cap))) (by kernel_rfl) ?_ (fun hHeld=>?_)
    . (try dsimp only);go_keep
    refine tq 0 27 hHeld ?_;(try simp only [Act.put,sx]);refine tq 1 28 hHeld ?_;(try simp only [Act.put,sx])
    refine wpAnyH_ready (rs:=[2]) (by kernel_rfl) (by simp) ?_;refine AllReadyH.cons rfl (fun K hK=>?_) AllReadyH.nil;go_simp
    go_wp2_with (go_at_call 128;refine (za9 hR _).mono ?_;rintro e w' ⟨rfl,rfl⟩)
    refine hK.out _ _ hHeld (fun hHeld=>?_);clear hK K
    refine tq 3 30 hHeld ?_;(try simp only [Act.put,sx]);refine tq 4 31 hHeld ?_;(try simp only [Act.put,sx]);refine tq 5 32 hHeld ?_;(try simp only [Act.put,sx]);refine tq 6 33 hHeld ?_;(try simp only [Act.put,sx]);refine tq 7 34 hHeld ?_;(try simp only [Act.put,sx])
    refine wpAnyH_ready (rs:=[8]) (by kernel_rfl) (by simp) ?_;refine AllReadyH.cons rfl (fun K hK=>?_) AllReadyH.nil;go_simp
    go_wp2_with (go_at_call 113;refine (zcq hf _ HWm.out HWn.out).mono ?_;rintro e w' ⟨rfl,hb⟩)
    have FF:=bx5 HBx HBz hb;clear hb;refine hK.out _ _ FF.out.2 (fun hHeld=>?_);clear hK K
    refine tq 9 36 hHeld ?_;(try simp only [Act.put,sx]);refine tq 10 37 hHeld ?_;(try simp only [Act.put,sx]);refine tq 11 38 hHeld ?_;(try simp only [Act.put,sx]);refine tq 12 39 hHeld ?_;(try simp only [Act.put,sx]);refine tq 13 40 hHeld ?_;(try simp only [Act.put,sx])
    refine wpAnyH_ready (rs:=[14]) (by kernel_rfl) (by simp) ?_;refine AllReadyH.cons rfl (fun K hK=>?_) AllReadyH.nil;go_simp
    go_wp2_with (go_at_call 128;refine (za9 hR _).mono ?_;rintro e w' ⟨rfl,rfl⟩)
    refine hK.out _ _ hHeld (fun hHeld=>?_);clear hK K
    refine tq 15 42 hHeld ?_;(try simp only [Act.put,sx]);refine tq 16 43 hHeld ?_;(try simp only [Act.put,sx]);refine tu 17 44 hHeld ?_;(try simp only [Act.put,sx]);refine tu 18 45 hHeld ?_;(try simp only [Act.put,sx]);refine tu 19 46 hHeld ?_;(try simp only [Act.put,sx]);refine tu 20 47 hHeld ?_;(try simp only [Act.put,sx]);refine tu 21 48 hHeld ?_;(try simp only [Act.put,sx]);refine tu 22 49 hHeld ?_;(try simp only [Act.put,sx]);refine tu 23 50 hHeld ?_;(try simp only [Act.put,sx]);refine tu 24 51 hHeld ?_;(try simp only [Act.put,sx]);refine tq 25 52 hHeld ?_;(try simp only [Act.put,sx]);refine tq 26 53 hHeld ?_;(try simp only [Act.put,sx]);refine tq 27 54 hHeld ?_;(try simp only [Act.put,sx]);refine tq 28 55 hHeld ?_;(try simp only [Act.put,sx]);refine tq 29 56 hHeld ?_;(try simp only [Act.put,sx]);refine tq 30 57 hHeld ?_;(try simp only [Act.put,sx]);refine tq 31 58 hHeld ?_;(try simp only [Act.put,sx]);refine tu 32 59 hHeld ?_;(try simp only [Act.put,sx]);refine tu 33 60 hHeld ?_;(try simp only [Act.put,sx]);refine tu 34 61 hHeld ?_;(try simp only [Act.put,sx]);refine tu 35 62 hHeld ?_;(try simp only [Act.put,sx]);refine tq 36 63 hHeld ?_;(try simp only [Act.put,sx]);refine tq 37 64 hHeld ?_;(try simp only [Act.put,sx]);refine tq 38 65 hHeld ?_;(try simp only [Act.put,sx]);refine tq 39 66 hHeld ?_;(try simp only [Act.put,sx]);refine tq 40 67 hHeld ?_;(try simp only [Act.put,sx]);refine tq 41 68 hHeld ?_;(try simp only [Act.put,sx]);refine tq 42 69 hHeld ?_;(try simp only [Act.put,sx]);refine tq 43 70 hHeld ?_;(try simp only [Act.put,sx]);refine tq 44 71 hHeld ?_;(try simp only [Act.put,sx]);refine tq 45 72 hHeld ?_;(try simp only [Act.put,sx]);refine tq 46 73 hHeld ?_;(try simp only [Act.put,sx]);refine tq 47 74 hHeld ?_;(try simp only [Act.put,sx]);refine tq 48 75 hHeld ?_;(try simp only [Act.put,sx]);refine tu 49 76 hHeld ?_;(try simp only [Act.put,sx]);refine tu 50 77 hHeld ?_;(try simp only [Act.put,sx]);refine tu 51 78 hHeld ?_;(try simp only [Act.put,sx]);refine tu 52 79 hHeld ?_;(try simp only [Act.put,sx]);refine tu 53 80 hHeld ?_;(try simp only [Act.put,sx]);refine tu 54 81 hHeld ?_;(try simp only [Act.put,sx]);refine tu 55 82 hHeld ?_;(try simp only [Act.put,sx]);refine tu 56 83 hHeld ?_;(try simp only [Act.put,sx]);refine tu 57 84 hHeld ?_;(try simp only [Act.put,sx]);refine tu 58 85 hHeld ?_;(try simp only [Act.put,sx]);refine tu 59 86 hHeld ?_;(try simp only [Act.put,sx]);refine tu 60 87 hHeld ?_;(try simp only [Act.put,sx]);refine tu 61 88 hHeld ?_;(try simp only [Act.put,sx]);refine tq 62 89 hHeld ?_;(try simp only [Act.put,sx])
    refine wpAnyH_done (by kernel_rfl) ?_ _;go_wp2_with fail;go_meet;exact ⟨by rw [HE.out],zvy FF⟩
  | false=>
    cases h0:decide (0<=q) with
    | false=>
      have HE:Hid (C=false):=by show _=_;rw [HC.out];simp [hR,hf,ho1,ho2,hN,h0]
      refine wp_region_held_drew (S:=(fun W=>W.cell? ⟨w.heap.size,0,none⟩=some (.int .i64 op)/\W.cell? ⟨w.heap.size,1,none⟩=some (.int .i64 n)/\W.cell? ⟨w.heap.size,2,none⟩=some (.string mod)/\W.cell? ⟨w.heap.size,3,none⟩=some (.string name)/\W.cell? ⟨w.heap.size,4,none⟩=some (.slice aa l.length cap))) (by kernel_rfl) ?_ (fun hHeld=>?_)
      . (try dsimp only);go_keep
      refine tq 0 27 hHeld ?_;(try simp only [Act.put,sx]);refine tq 1 28 hHeld ?_;(try simp only [Act.put,sx])
      refine wpAnyH_ready (rs:=[2]) (by kernel_rfl) (by simp) ?_;refine AllReadyH.cons rfl (fun K hK=>?_) AllReadyH.nil;go_simp
      go_wp2_with (go_at_call 128;refine (za9 hR _).mono ?_;rintro e w' ⟨rfl,rfl⟩)
      refine hK.out _ _ hHeld (fun hHeld=>?_);clear hK K
      refine tq 3 30 hHeld ?_;(try simp only [Act.put,sx]);refine tq 4 31 hHeld ?_;(try simp only [Act.put,sx]);refine tq 5 32 hHeld ?_;(try simp only [Act.put,sx]);refine tq 6 33 hHeld ?_;(try simp only [Act.put,sx]);refine tq 7 34 hHeld ?_;(try simp only [Act.put,sx])
      refine wpAnyH_ready (rs:=[8]) (by kernel_rfl) (by simp) ?_;refine AllReadyH.cons rfl (fun K hK=>?_) AllReadyH.nil;go_simp
      go_wp2_with (go_at_call 113;refine (zcq hf _ HWm.out HWn.out).mono ?_;rintro e w' ⟨rfl,hb⟩)
      have FF:=bx5 HBx HBz hb;clear hb;refine hK.out _ _ FF.out.2 (fun hHeld=>?_);clear hK K
      refine tq 9 36 hHeld ?_;(try simp only [Act.put,sx]);refine tq 10 37 hHeld ?_;(try simp only [Act.put,sx]);refine tq 11 38 hHeld ?_;(try simp only [Act.put,sx]);refine tq 12 39 hHeld ?_;(try simp only [Act.put,sx]);refine tq 13 40 hHeld ?_;(try simp only [Act.put,sx])
      refine wpAnyH_ready (rs:=[14]) (by kernel_rfl) (by simp) ?_;refine AllReadyH.cons rfl (fun K hK=>?_) AllReadyH.nil;go_simp
      go_wp2_with (go_at_call 128;refine (za9 hR _).mono ?_;rintro e w' ⟨rfl,rfl⟩)
      refine hK.out _ _ hHeld (fun hHeld=>?_);clear hK K
      refine tq 15 42 hHeld ?_;(try simp only [Act.put,sx]);refine tq 16 43 hHeld ?_;(try simp only [Act.put,sx]);refine tu 17 44 hHeld ?_;(try simp only [Act.put,sx]);refine tu 18 45 hHeld ?_;(try simp only [Act.put,sx]);refine tu 19 46 hHeld ?_;(try simp only [Act.put,sx]);refine tu 20 47 hHeld ?_;(try simp only [Act.put,sx]);refine tu 21 48 hHeld ?_;(try simp only [Act.put,sx]);refine tu 22 49 hHeld ?_;(try simp only [Act.put,sx]);refine tu 23 50 hHeld ?_;(try simp only [Act.put,sx]);refine tu 24 51 hHeld ?_;(try simp only [Act.put,sx]);refine tq 25 52 hHeld ?_;(try simp only [Act.put,sx]);refine tq 26 53 hHeld ?_;(try simp only [Act.put,sx]);refine tq 27 54 hHeld ?_;(try simp only [Act.put,sx]);refine tq 28 55 hHeld ?_;(try simp only [Act.put,sx]);refine tq 29 56 hHeld ?_;(try simp only [Act.put,sx]);refine tq 30 57 hHeld ?_;(try simp only [Act.put,sx]);refine tq 31 58 hHeld ?_;(try simp only [Act.put,sx]);refine tu 32 59 hHeld ?_;(try simp only [Act.put,sx]);refine tu 33 60 hHeld ?_;(try simp only [Act.put,sx]);refine tu 34 61 hHeld ?_;(try simp only [Act.put,sx]);refine tu 35 62 hHeld ?_;(try simp only [Act.put,sx]);refine tq 36 63 hHeld ?_;(try simp only [Act.put,sx]);refine tq 37 64 hHeld ?_;(try simp only [Act.put,sx]);refine tq 38 65 hHeld ?_;(try simp only [Act.put,sx]);refine tq 39 66 hHeld ?_;(try simp only [Act.put,sx]);refine tq 40 67 hHeld ?_;(try simp only [Act.put,sx]);refine tq 41 68 hHeld ?_;(try simp only [Act.put,sx]);refine tq 42 69 hHeld ?_;(try simp only [Act.put,sx]);refine tq 43 70 hHeld ?_;(try simp only [Act.put,sx]);refine tq 44 71 hHeld ?_;(try simp only [Act.put,sx]);refine tq 45 72 hHeld ?_;(try simp only [Act.put,sx]);refine tq 46 73 hHeld ?_;(try simp only [Act.put,sx]);refine tq 47 74 hHeld ?_;(try simp only [Act.put,sx]);refine tq 48 75 hHeld ?_;(try simp only [Act.put,sx]);refine tq 49 76 hHeld ?_;(try simp only [Act.put,sx]);refine tq 50 77 hHeld ?_;(try simp only [Act.put,sx])
      refine wpAnyH_ready (rs:=[51]) (by kernel_rfl) (by simp) ?_;refine AllReadyH.cons rfl (fun K hK=>?_) AllReadyH.nil;go_simp
      go_wp2_with (go_at_call 129;refine (zbl hq _).mono ?_;rintro e w' ⟨rfl,rfl⟩)
      refine hK.out _ _ hHeld (fun hHeld=>?_);clear hK K
      refine tq 52 79 hHeld ?_;(try simp only [Act.put,sx]);refine tq 53 80 hHeld ?_;(try simp only [Act.put,sx]);refine tu 54 81 hHeld ?_;(try simp only [Act.put,sx]);refine tu 55 82 hHeld ?_;(try simp only [Act.put,sx]);refine tu 56 83 hHeld ?_;(try simp only [Act.put,sx]);refine tu 57 84 hHeld ?_;(try simp only [Act.put,sx]);refine tu 58 85 hHeld ?_;(try simp only [Act.put,sx]);refine tu 59 86 hHeld ?_;(try simp only [Act.put,sx]);refine tu 60 87 hHeld ?_;(try simp only [Act.put,sx]);refine tq 61 88 hHeld ?_;(try simp only [Act.put,sx]);refine tq 62 89 hHeld ?_;(try simp only [Act.put,sx])
      refine wpAnyH_done (by kernel_rfl) ?_ _;go_wp2_with fail;go_meet;exact ⟨by rw [HE.out],zvy FF⟩
    | true=>
      cases hl:((l.length:Int) != q) with
      | false=>
        have HE:Hid (C=false):=by show _=_;rw [HC.out];simp [hR,hf,ho1,ho2,hN,h0,hl]
        refine wp_region_held_drew (S:=(fun W=>W.cell? ⟨w.heap.size,0,none⟩=some (.int .i64 op)/\W.cell? ⟨w.heap.size,1,none⟩=some (.int .i64 n)/\W.cell? ⟨w.heap.size,2,none⟩=some (.string mod)/\W.cell? ⟨w.heap.size,3,none⟩=some (.string name)/\W.cell? ⟨w.heap.size,4,none⟩=some (.slice aa l.length cap))) (by kernel_rfl) ?_ (fun hHeld=>?_)
        . (try dsimp only);go_keep
        refine tq 0 27 hHeld ?_;(try simp only [Act.put,sx]);refine tq 1 28 hHeld ?_;(try simp only [Act.put,sx])
        refine wpAnyH_ready (rs:=[2]) (by kernel_rfl) (by simp) ?_;refine AllReadyH.cons rfl (fun K hK=>?_) AllReadyH.nil;go_simp
        go_wp2_with (go_at_call 128;refine (za9 hR _).mono ?_;rintro e w' ⟨rfl,rfl⟩)
        refine hK.out _ _ hHeld (fun hHeld=>?_);clear hK K
        refine tq 3 30 hHeld ?_;(try simp only [Act.put,sx]);refine tq 4 31 hHeld ?_;(try simp only [Act.put,sx]);refine tq 5 32 hHeld ?_;(try simp only [Act.put,sx]);refine tq 6 33 hHeld ?_;(try simp only [Act.put,sx]);refine tq 7 34 hHeld ?_;(try simp only [Act.put,sx])
        refine wpAnyH_ready (rs:=[8]) (by kernel_rfl) (by simp) ?_;refine AllReadyH.cons rfl (fun K hK=>?_) AllReadyH.nil;go_simp
        go_wp2_with (go_at_call 113;refine (zcq hf _ HWm.out HWn.out).mono ?_;rintro e w' ⟨rfl,hb⟩)
        have FF:=bx5 HBx HBz hb;clear hb;refine hK.out _ _ FF.out.2 (fun hHeld=>?_);clear hK K
        refine tq 9 36 hHeld ?_;(try simp only [Act.put,sx]);refine tq 10 37 hHeld ?_;(try simp only [Act.put,sx]);refine tq 11 38 hHeld ?_;(try simp only [Act.put,sx]);refine tq 12 39 hHeld ?_;(try simp only [Act.put,sx]);refine tq 13 40 hHeld ?_;(try simp only [Act.put,sx])
        refine wpAnyH_ready (rs:=[14]) (by kernel_rfl) (by simp) ?_;refine AllReadyH.cons rfl (fun K hK=>?_) AllReadyH.nil;go_simp
        go_wp2_with (go_at_call 128;refine (za9 hR _).mono ?_;rintro e w' ⟨rfl,rfl⟩)
        refine hK.out _ _ hHeld (fun hHeld=>?_);clear hK K
        refine tq 15 42 hHeld ?_;(try simp only [Act.put,sx]);refine tq 16 43 hHeld ?_;(try simp only [Act.put,sx]);refine tu 17 44 hHeld ?_;(try simp only [Act.put,sx]);refine tu 18 45 hHeld ?_;(try simp only [Act.put,sx]);refine tu 19 46 hHeld ?_;(try simp only [Act.put,sx]);refine tu 20 47 hHeld ?_;(try simp only [Act.put,sx]);refine tu 21 48 hHeld ?_;(try simp only [Act.put,sx]);refine tu 22 49 hHeld ?_;(try simp only [Act.put,sx]);refine tu 23 50 hHeld ?_;(try simp only [Act.put,sx]);refine tu 24 51 hHeld ?_;(try simp only [Act.put,sx]);refine tq 25 52 hHeld ?_;(try simp only [Act.put,sx]);refine tq 26 53 hHeld ?_;(try simp only [Act.put,sx]);refine tq 27 54 hHeld ?_;(try simp only [Act.put,sx]);refine tq 28 55 hHeld ?_;(try simp only [Act.put,sx]);refine tq 29 56 hHeld ?_;(try simp only [Act.put,sx]);refine tq 30 57 hHeld ?_;(try simp only [Act.put,sx]);refine tq 31 58 hHeld ?_;(try simp only [Act.put,sx]);refine tu 32 59 hHeld ?_;(try simp only [Act.put,sx]);refine tu 33 60 hHeld ?_;(try simp only [Act.put,sx]);refine tu 34 61 hHeld ?_;(try simp only [Act.put,sx]);refine tu 35 62 hHeld ?_;(try simp only [Act.put,sx]);refine tq 36 63 hHeld ?_;(try simp only [Act.put,sx]);refine tq 37 64 hHeld ?_;(try simp only [Act.put,sx]);refine tq 38 65 hHeld ?_;(try simp only [Act.put,sx]);refine tq 39 66 hHeld ?_;(try simp only [Act.put,sx]);refine tq 40 67 hHeld ?_;(try simp only [Act.put,sx]);refine tq 41 68 hHeld ?_;(try simp only [Act.put,sx]);refine tq 42 69 hHeld ?_;(try simp only [Act.put,sx]);refine tq 43 70 hHeld ?_;(try simp only [Act.put,sx]);refine tq 44 71 hHeld ?_;(try simp only [Act.put,sx]);refine tq 45 72 hHeld ?_;(try simp only [Act.put,sx]);refine tq 46 73 hHeld ?_;(try simp only [Act.put,sx]);refine tq 47 74 hHeld ?_;(try simp only [Act.put,sx]);refine tq 48 75 hHeld ?_;(try simp only [Act.put,sx]);refine tq 49 76 hHeld ?_;(try simp only [Act.put,sx]);refine tq 50 77 hHeld ?_;(try simp only [Act.put,sx])
        refine wpAnyH_ready (rs:=[51]) (by kernel_rfl) (by simp) ?_;refine AllReadyH.cons rfl (fun K hK=>?_) AllReadyH.nil;go_simp
        go_wp2_with (go_at_call 129;refine (zbl hq _).mono ?_;rintro e w' ⟨rfl,rfl⟩)
        refine hK.out _ _ hHeld (fun hHeld=>?_);clear hK K
        refine tq 52 79 hHeld ?_;(try simp only [Act.put,sx]);refine tq 53 80 hHeld ?_;(try simp only [Act.put,sx]);refine tq 54 81 hHeld ?_;(try simp only [Act.put,sx]);refine tq 55 82 hHeld ?_;(try simp only [Act.put,sx]);refine tq 56 83 hHeld ?_;(try simp only [Act.put,sx]);refine tq 57 84 hHeld ?_;(try simp only [Act.put,sx]);refine tq 58 85 hHeld ?_;(try simp only [Act.put,sx])
        refine wpAnyH_ready (rs:=[59]) (by kernel_rfl) (by simp) ?_;refine AllReadyH.cons rfl (fun K hK=>?_) AllReadyH.nil;go_simp
        go_wp2_with (go_at_call 129;refine (zbl hq _).mono ?_;rintro e w' ⟨rfl,rfl⟩)
        refine hK.out _ _ hHeld (fun hHeld=>?_);clear hK K
        refine tq 60 87 hHeld ?_;(try simp only [Act.put,sx]);refine tq 61 88 hHeld ?_;(try simp only [Act.put,sx]);refine tq 62 89 hHeld ?_;(try simp only [Act.put,sx])
        refine wpAnyH_done (by kernel_rfl) ?_ _;go_wp2_with fail;go_meet;exact ⟨by rw [HE.out],zvy FF⟩
      | true=>
        have HE:Hid (C=true):=by show _=_;rw [HC.out];simp [hR,hf,ho1,ho2,hN,h0,hl]
        refine wp_region_held_drew (S:=(fun W=>W.cell? ⟨w.heap.size,0,none⟩=some (.int .i64 op)/\W.cell? ⟨w.heap.size,1,none⟩=some (.int .i64 n)/\W.cell? ⟨w.heap.size,2,none⟩=some (.string mod)/\W.cell? ⟨w.heap.size,3,none⟩=some (.string name)/\W.cell? ⟨w.heap.size,4,none⟩=some (.slice aa l.length cap))) (by kernel_rfl) ?_ (fun hHeld=>?_)
        . (try dsimp only);go_keep
        refine tq 0 27 hHeld ?_;(try simp only [Act.put,sx]);refine tq 1 28 hHeld ?_;(try simp only [Act.put,sx])
        refine wpAnyH_ready (rs:=[2]) (by kernel_rfl) (by simp) ?_;refine AllReadyH.cons rfl (fun K hK=>?_) AllReadyH.nil;go_simp
        go_wp2_with (go_at_call 128;refine (za9 hR _).mono ?_;rintro e w' ⟨rfl,rfl⟩)
        refine hK.out _ _ hHeld (fun hHeld=>?_);clear hK K
        refine tq 3 30 hHeld ?_;(try simp only [Act.put,sx]);refine tq 4 31 hHeld ?_;(try simp only [Act.put,sx]);refine tq 5 32 hHeld ?_;(try simp only [Act.put,sx]);refine tq 6 33 hHeld ?_;(try simp only [Act.put,sx]);refine tq 7 34 hHeld ?_;(try simp only [Act.put,sx])
        refine wpAnyH_ready (rs:=[8]) (by kernel_rfl) (by simp) ?_;refine AllReadyH.cons rfl (fun K hK=>?_) AllReadyH.nil;go_simp
        go_wp2_with (go_at_call 113;refine (zcq hf _ HWm.out HWn.out).mono ?_;rintro e w' ⟨rfl,hb⟩)
        have FF:=bx5 HBx HBz hb;clear hb;refine hK.out _ _ FF.out.2 (fun hHeld=>?_);clear hK K
        refine tq 9 36 hHeld ?_;(try simp only [Act.put,sx]);refine tq 10 37 hHeld ?_;(try simp only [Act.put,sx]);refine tq 11 38 hHeld ?_;(try simp only [Act.put,sx]);refine tq 12 39 hHeld ?_;(try simp only [Act.put,sx]);refine tq 13 40 hHeld ?_;(try simp only [Act.put,sx])
        refine wpAnyH_ready (rs:=[14]) (by kernel_rfl) (by simp) ?_;refine AllReadyH.cons rfl (fun K hK=>?_) AllReadyH.nil;go_simp
        go_wp2_with (go_at_call 128;refine (za9 hR _).mono ?_;rintro e w' ⟨rfl,rfl⟩)
        refine hK.out _ _ hHeld (fun hHeld=>?_);clear hK K
        refine tq 15 42 hHeld ?_;(try simp only [Act.put,sx]);refine tq 16 43 hHeld ?_;(try simp only [Act.put,sx]);refine tu 17 44 hHeld ?_;(try simp only [Act.put,sx]);refine tu 18 45 hHeld ?_;(try simp only [Act.put,sx]);refine tu 19 46 hHeld ?_;(try simp only [Act.put,sx]);refine tu 20 47 hHeld ?_;(try simp only [Act.put,sx]);refine tu 21 48 hHeld ?_;(try simp only [Act.put,sx]);refine tu 22 49 hHeld ?_;(try simp only [Act.put,sx]);refine tu 23 50 hHeld ?_;(try simp only [Act.put,sx]);refine tu 24 51 hHeld ?_;(try simp only [Act.put,sx]);refine tq 25 52 hHeld ?_;(try simp only [Act.put,sx]);refine tq 26 53 hHeld ?_;(try simp only [Act.put,sx]);refine tq 27 54 hHeld ?_;(try simp only [Act.put,sx]);refine tq 28 55 hHeld ?_;(try simp only [Act.put,sx]);refine tq 29 56 hHeld ?_;(try simp only [Act.put,sx]);refine tq 30 57 hHeld ?_;(try simp only [Act.put,sx]);refine tq 31 58 hHeld ?_;(try simp only [Act.put,sx]);refine tu 32 59 hHeld ?_;(try simp only [Act.put,sx]);refine tu 33 60 hHeld ?_;(try simp only [Act.put,sx]);refine tu 34 61 hHeld ?_;(try simp only [Act.put,sx]);refine tu 35 62 hHeld ?_;(try simp only [Act.put,sx]);refine tq 36 63 hHeld ?_;(try simp only [Act.put,sx]);refine tq 37 64 hHeld ?_;(try simp only [Act.put,sx]);refine tq 38 65 hHeld ?_;(try simp only [Act.put,sx]);refine tq 39 66 hHeld ?_;(try simp only [Act.put,sx]);refine tq 40 67 hHeld ?_;(try simp only [Act.put,sx]);refine tq 41 68 hHeld ?_;(try simp only [Act.put,sx]);refine tq 42 69 hHeld ?_;(try simp only [Act.put,sx]);refine tq 43 70 hHeld ?_;(try simp only [Act.put,sx]);refine tq 44 71 hHeld ?_;(try simp only [Act.put,sx]);refine tq 45 72 hHeld ?_;(try simp only [Act.put,sx]);refine tq 46 73 hHeld ?_;(try simp only [Act.put,sx]);refine tq 47 74 hHeld ?_;(try simp only [Act.put,sx]);refine tq 48 75 hHeld ?_;(try simp only [Act.put,sx]);refine tq 49 76 hHeld ?_;(try simp only [Act.put,sx]);refine tq 50 77 hHeld ?_;(try simp only [Act.put,sx])
        refine wpAnyH_ready (rs:=[51]) (by kernel_rfl) (by simp) ?_;refine AllReadyH.cons rfl (fun K hK=>?_) AllReadyH.nil;go_simp
        go_wp2_with (go_at_call 129;refine (zbl hq _).mono ?_;rintro e w' ⟨rfl,rfl⟩)
        refine hK.out _ _ hHeld (fun hHeld=>?_);clear hK K
        refine tq 52 79 hHeld ?_;(try simp only [Act.put,sx]);refine tq 53 80 hHeld ?_;(try simp only [Act.put,sx]);refine tq 54 81 hHeld ?_;(try simp only [Act.put,sx]);refine tq 55 82 hHeld ?_;(try simp only [Act.put,sx]);refine tq 56 83 hHeld ?_;(try simp only [Act.put,sx]);refine tq 57 84 hHeld ?_;(try simp only [Act.put,sx]);refine tq 58 85 hHeld ?_;(try simp only [Act.put,sx])
        refine wpAnyH_ready (rs:=[59]) (by kernel_rfl) (by simp) ?_;refine AllReadyH.cons rfl (fun K hK=>?_) AllReadyH.nil;go_simp
        go_wp2_with (go_at_call 129;refine (zbl hq _).mono ?_;rintro e w' ⟨rfl,rfl⟩)
        refine hK.out _ _ hHeld (fun hHeld=>?_);clear hK K
        refine tq 60 87 hHeld ?_;(try simp only [Act.put,sx]);refine tq 61 88 hHeld ?_;(try simp only [Act.put,sx]);refine tq 62 89 hHeld ?_;(try simp only [Act.put,sx])
        refine wpAnyH_done (by kernel_rfl) ?_ _;go_wp2_with fail;go_meet;exact ⟨by rw [HE.out],zvy FF⟩
 case rest=>
  obtain ⟨rfl,HBc⟩:=hcut;have HB0':Hid (Below w.heap.size w wc):=zab HB0.out HBc.out;have HBx':Hid (Blk wc w.heap.size [.int .i64 op,.int .i64 n,.string mod,.string name,.slice aa l.length cap]):=HBx.out.later HBc.out;clear HB0 HBx HBc HC;have HB0:=HB0';have HBx:=HBx';clear HB0' HBx';have x4:=HBx.out.cell 4 _ rfl;have xz:=HBx.out.lt
  cases hCb:C with
  | true=>
    subst hCb;go_wp2_with fail;go_ret;exact ⟨zaa (HR.out rfl),HB0.out⟩
  | false =>
    subst hCb;go_wp2_with fail
    go_loopw [7] (fun i wr=>∃ j:Nat,j<=l.length/\i = .int .i64 j/\(l.take j).any (eL 3 k)=false/\Below w.heap.size w wr/\Blk wr w.heap.size [.int .i64 op,.int .i64 n,.string mod,.string name,.slice aa l.length cap]) (fun i _=>l.length - (intOf i).toNat)
    case atStart=>exact ⟨0,Nat.zero_le _,rfl,rfl,HB0.out,HBx.out⟩
    case round=>
     obtain ⟨j,hj,rfl,hall,hb,hB⟩:=hrel;clear HBx HB0;clear x4 xz;have q4:=hB.cell 4 _ rfl;have qz:=hB.lt;have HB:Hid (Blk wr w.heap.size [.int .i64 op,.int .i64 n,.string mod,.string name,.slice aa l.length cap]):=hB;have HA:Hid ((l.take j).any (eL 3 k)=false):=hall;clear hall hB
     by_cases hlt:j<l.length
     . obtain ⟨b,off,a2,cp,rfl,hx⟩:=(HD.out.later hb).ex j hlt
       have hc0:=hx.c0;have hc1:=hx.c1;have hc2:=hx.c2;have hc3:=hx.c3;have hc4:=hx.c4;have hlb:=hx.lt;have HX:Hid (ExAt wr A b (off+j*5) l[j] a2 cp):=hx;clear hx;go_wp2_with fail;refine (HI.out l[j] a2 cp _ HX.out.args HX.out.wm HX.out.wna).mono ?_
       cases hr:eL 3 k l[j] with
       | true=>
         have HF:Hid (l.any (eL 3 k)=true):=zbw l _ j hlt hr;rintro e w3 ⟨rfl,hb3⟩;go_wp2_with fail;go_ret;exact ⟨zaa (HR.out (by rw [HF.out,Bool.or_true])),zab hb hb3⟩
       | false=>
         have HT:Hid ((l.take (j+1)).any (eL 3 k)=false):=by
          show _=_
          rw [za1 l _ j hlt,HA.out,hr];rfl
         rintro e w3 ⟨rfl,hb3⟩;go_wp2_with fail;go_roundw
         case rel=>exact ⟨j+1,by omega,by go_num,HT.out,zab hb hb3,HB.out.later hb3⟩
         case measure=>simp [intOf];omega
     . have HT:Hid (l.any (eL 3 k)=false):=zbq HA.out hlt
       go_wp2_with fail;go_ret;exact ⟨zaa (HR.out (by rw [HT.out];rfl)),hb⟩
end Go.Proofs.YtcekpobmbmnplaaGreatDoor
