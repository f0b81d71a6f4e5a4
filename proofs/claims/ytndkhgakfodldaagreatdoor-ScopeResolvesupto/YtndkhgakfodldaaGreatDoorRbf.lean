import Derived.Test.YtndkhgakfodldaaGreatDoorRb
namespace Go.Proofs.YtndkhgakfodldaaGreatDoor
set_option maxRecDepth 100000
set_option maxHeartbeats 8000000
open Go.RowKit Go.Maps
theorem zsw (A:Nat->Prop) (k:Nat) (op n:Int) (mod name:ByteArray) (l:List Ex) (aa:OA) (cap:Nat) (deep:Int) (w:World) (hbd:l.length<=17592186044416) (hd1:1<=deep) (hd6:deep<=6)
 (HI:Hid (∀ (x:Ex) (aa:OA) (cap:Nat) (w:World),DAt w A aa x.args.length (za9 x.args)->x.mod.size<=maxLen->x.name.size<=maxLen->
   Calls Tryz.prog 247 #[.agg #[.int .i64 x.op,.int .i64 x.n,.string x.mod,.string x.name,.slice aa x.args.length cap],.int .i64 3,.int .i64 (deep+1)] w fun e w'=>e = .returned (.bool (eL 3 k x))/\Below w.heap.size w w'))
 (HD:Hid (DAt w A aa l.length (za9 l))) (HWm:Hid (mod.size<=maxLen)) (HWn:Hid (name.size<=maxLen))
 (hR:inB op 3 5=true) (hf:zc7 mod name=true) :
 Calls Tryz.prog 247 #[.agg #[.int .i64 op,.int .i64 n,.string mod,.string name,.slice aa l.length cap],.int .i64 3,.int .i64 deep] w fun e w'=>e = .returned (.bool (eL 3 (k+1) (.mk op n mod name l)))/\Below w.heap.size w w':=by
 have HR:Hid (∀ {b:Bool},(zh7 3 (.mk op n mod name l)||l.any (eL 3 k))=b->b=eL 3 (k+1) (.mk op n mod name l)):=fun h=>by rw [← h];simp [eL,Ex.args]
 have HBx:Hid (Blk (w.alloc (.cells #[.int .i64 op,.int .i64 n,.string mod,.string name,.slice aa l.length cap] 174)) w.heap.size [.int .i64 op,.int .i64 n,.string mod,.string name,.slice aa l.length cap]):=Blk.new w _ _;have HB0:Hid (Below w.heap.size w (w.alloc (.cells #[.int .i64 op,.int .i64 n,.string mod,.string name,.slice aa l.length cap] 174))):=al1 _ _;have HC:Hid (zh7 3 (.mk op n mod name l)=((inB op 3 5 && !zc7 mod name)||(!inB op 3 5&&(!mod.toList.isEmpty || !name.toList.isEmpty))||(op == 1 && !inB n 0 1099511627775)||(op != 1&&n != 0)||(decide (0<=exN op)&&((l.length:Int) != exN op)))):=rfl;generalize hCC:zh7 3 (.mk op n mod name l)=C at HC HR;clear hCC;go_enter Tryz.func247,Tryz.ntmps247;go_upto_region 11 with fail;generalize hW0:w.alloc (.cells #[.int .i64 op,.int .i64 n,.string mod,.string name,.slice aa l.length cap] 174)=W0 at *
 clear hW0
 go_cut [89] (fun v wc=>v = .bool C/\Hid (Below W0.heap.size W0 wc))
 case first=>
  clear HD HI HR HB0;obtain ⟨x0,x1,x2,x3,x4,xz⟩:=HBx.out.c5;have HBz:Hid (Below W0.heap.size W0 W0.drew):=(Below.refl _ _).drew;generalize hq:exN op=q at *;have ho1:(op == 1)=false:=beq_eq_false_iff_ne.2 (by simp [inB] at hR;omega)
  have ho2:(op != 1)=true:=by simp only [bne,ho1];rfl
  cases hN:(n != 0) with
  | true=>
    have HE:Hid (C=true):=by show _=_;rw [HC.out];simp [hR,hf,ho1,ho2,hN]
    refine wp_region_held_drew (S:=(fun W=>W.cell? ⟨w.heap.size,0,none⟩=some (.int .i64 op)/\W.cell? ⟨w.heap.size,1,none⟩=some (.int .i64 n)/\W.cell? ⟨w.heap.size,2,none⟩=some (.string mod)/\W.cell? ⟨w.heap.size,3,none⟩=some (.string name)/\W.cell? ⟨w.heap.size,4,none⟩=some (.slice aa l.length cap))) (by kernel_rfl) ?_ (fun hHeld=>?_)
    . (try dsimp only);go_keep
    refine tqr 0 27 hHeld ?_
    (try simp only [Act.put,sx])
    refine tqr 1 28 hHeld ?_
    (try simp only [Act.put,sx])
    refine wpAnyH_ready (rs:=[2]) (by kernel_rfl) (by simp) ?_;refine AllReadyH.cons rfl (fun K hK=>?_) AllReadyH.nil;go_simp
    go_wp2_with (go_at_call 259;refine (za5 hR _).mono ?_;rintro e w' ⟨rfl,rfl⟩)
    refine hK.out _ _ hHeld (fun hHeld=>?_);clear hK K;refine tqr 3 30 hHeld ?_
    (try simp only [Act.put,sx])
    refine tqr 4 31 hHeld ?_
    (try simp only [Act.put,sx])
    refine tqr 5 32 hHeld ?_
    (try simp only [Act.put,sx])
    refine tqr 6 33 hHeld ?_
    (try simp only [Act.put,sx])
    refine tqr 7 34 hHeld ?_
    (try simp only [Act.put,sx])
    refine wpAnyH_ready (rs:=[8]) (by kernel_rfl) (by simp) ?_;refine AllReadyH.cons rfl (fun K hK=>?_) AllReadyH.nil;go_simp
    go_wp2_with (go_at_call 245;refine (zby hf _ HWm.out HWn.out).mono ?_;rintro e w' ⟨rfl,hb⟩)
    have FF:=bx5 HBx HBz hb;clear hb;refine hK.out _ _ FF.out.2 (fun hHeld=>?_);clear hK K;refine tqr 9 36 hHeld ?_
    (try simp only [Act.put,sx])
    refine tqr 10 37 hHeld ?_
    (try simp only [Act.put,sx])
    refine tqr 11 38 hHeld ?_
    (try simp only [Act.put,sx])
    refine tqr 12 39 hHeld ?_
    (try simp only [Act.put,sx])
    refine tqr 13 40 hHeld ?_
    (try simp only [Act.put,sx])
    refine wpAnyH_ready (rs:=[14]) (by kernel_rfl) (by simp) ?_;refine AllReadyH.cons rfl (fun K hK=>?_) AllReadyH.nil;go_simp
    go_wp2_with (go_at_call 259;refine (za5 hR _).mono ?_;rintro e w' ⟨rfl,rfl⟩)
    refine hK.out _ _ hHeld (fun hHeld=>?_);clear hK K;refine tqr 15 42 hHeld ?_
    (try simp only [Act.put,sx])
    refine tqr 16 43 hHeld ?_
    (try simp only [Act.put,sx])
    refine tk (i:=17) (oi:=⟨some 44,_,_,_,_,_⟩) (v:=undef) rfl (by kernel_rfl) (fun _ _ _ h=>h) (Or.inr ⟨by rfl,rfl⟩) hHeld ?rc17
    (try simp only [Act.put,sx])
    refine tk (i:=18) (oi:=⟨some 45,_,_,_,_,_⟩) (v:=undef) rfl (by kernel_rfl) (fun _ _ _ h=>h) (Or.inr ⟨by rfl,rfl⟩) hHeld ?rc18
    (try simp only [Act.put,sx])
    refine tk (i:=19) (oi:=⟨some 46,_,_,_,_,_⟩) (v:=undef) rfl (by kernel_rfl) (fun _ _ _ h=>h) (Or.inr ⟨by rfl,rfl⟩) hHeld ?rc19
    (try simp only [Act.put,sx])
    refine tk (i:=20) (oi:=⟨some 47,_,_,_,_,_⟩) (v:=undef) rfl (by kernel_rfl) (fun _ _ _ h=>h) (Or.inr ⟨by rfl,rfl⟩) hHeld ?rc20
    (try simp only [Act.put,sx])
    refine tk (i:=21) (oi:=⟨some 48,_,_,_,_,_⟩) (v:=undef) rfl (by kernel_rfl) (fun _ _ _ h=>h) (Or.inr ⟨by rfl,rfl⟩) hHeld ?rc21
    (try simp only [Act.put,sx])
    refine tk (i:=22) (oi:=⟨some 49,_,_,_,_,_⟩) (v:=undef) rfl (by kernel_rfl) (fun _ _ _ h=>h) (Or.inr ⟨by rfl,rfl⟩) hHeld ?rc22
    (try simp only [Act.put,sx])
    refine tk (i:=23) (oi:=⟨some 50,_,_,_,_,_⟩) (v:=undef) rfl (by kernel_rfl) (fun _ _ _ h=>h) (Or.inr ⟨by rfl,rfl⟩) hHeld ?rc23
    (try simp only [Act.put,sx])
    refine tk (i:=24) (oi:=⟨some 51,_,_,_,_,_⟩) (v:=undef) rfl (by kernel_rfl) (fun _ _ _ h=>h) (Or.inr ⟨by rfl,rfl⟩) hHeld ?rc24
    (try simp only [Act.put,sx])
    refine tqr 25 52 hHeld ?_
    (try simp only [Act.put,sx])
    refine tqr 26 53 hHeld ?_
    (try simp only [Act.put,sx])
    refine tqr 27 54 hHeld ?_
    (try simp only [Act.put,sx])
    refine tqr 28 55 hHeld ?_
    (try simp only [Act.put,sx])
    refine tqr 29 56 hHeld ?_
    (try simp only [Act.put,sx])
    refine tqr 30 57 hHeld ?_
    (try simp only [Act.put,sx])
    refine tqr 31 58 hHeld ?_
    (try simp only [Act.put,sx])
    refine tk (i:=32) (oi:=⟨some 59,_,_,_,_,_⟩) (v:=undef) rfl (by kernel_rfl) (fun _ _ _ h=>h) (Or.inr ⟨by rfl,rfl⟩) hHeld ?rc32
    (try simp only [Act.put,sx])
    refine tk (i:=33) (oi:=⟨some 60,_,_,_,_,_⟩) (v:=undef) rfl (by kernel_rfl) (fun _ _ _ h=>h) (Or.inr ⟨by rfl,rfl⟩) hHeld ?rc33
    (try simp only [Act.put,sx])
    refine tk (i:=34) (oi:=⟨some 61,_,_,_,_,_⟩) (v:=undef) rfl (by kernel_rfl) (fun _ _ _ h=>h) (Or.inr ⟨by rfl,rfl⟩) hHeld ?rc34
    (try simp only [Act.put,sx])
    refine tk (i:=35) (oi:=⟨some 62,_,_,_,_,_⟩) (v:=undef) rfl (by kernel_rfl) (fun _ _ _ h=>h) (Or.inr ⟨by rfl,rfl⟩) hHeld ?rc35
    (try simp only [Act.put,sx])
    refine tqr 36 63 hHeld ?_
    (try simp only [Act.put,sx])
    refine tqr 37 64 hHeld ?_
    (try simp only [Act.put,sx])
    refine tqr 38 65 hHeld ?_
    (try simp only [Act.put,sx])
    refine tqr 39 66 hHeld ?_
    (try simp only [Act.put,sx])
    refine tqr 40 67 hHeld ?_
    (try simp only [Act.put,sx])
    refine tqr 41 68 hHeld ?_
    (try simp only [Act.put,sx])
    refine tqr 42 69 hHeld ?_
    (try simp only [Act.put,sx])
    refine tqr 43 70 hHeld ?_
    (try simp only [Act.put,sx])
    refine tqr 44 71 hHeld ?_
    (try simp only [Act.put,sx])
    refine tqr 45 72 hHeld ?_
    (try simp only [Act.put,sx])
    refine tqr 46 73 hHeld ?_
    (try simp only [Act.put,sx])
    refine tqr 47 74 hHeld ?_
    (try simp only [Act.put,sx])
    refine tqr 48 75 hHeld ?_
    (try simp only [Act.put,sx])
    refine tk (i:=49) (oi:=⟨some 76,_,_,_,_,_⟩) (v:=undef) rfl (by kernel_rfl) (fun _ _ _ h=>h) (Or.inr ⟨by rfl,rfl⟩) hHeld ?rc49
    (try simp only [Act.put,sx])
    refine tk (i:=50) (oi:=⟨some 77,_,_,_,_,_⟩) (v:=undef) rfl (by kernel_rfl) (fun _ _ _ h=>h) (Or.inr ⟨by rfl,rfl⟩) hHeld ?rc50
    (try simp only [Act.put,sx])
    refine tk (i:=51) (oi:=⟨some 78,_,_,_,_,_⟩) (v:=undef) rfl (by kernel_rfl) (fun _ _ _ h=>h) (Or.inr ⟨by rfl,rfl⟩) hHeld ?rc51
    (try simp only [Act.put,sx])
    refine tk (i:=52) (oi:=⟨some 79,_,_,_,_,_⟩) (v:=undef) rfl (by kernel_rfl) (fun _ _ _ h=>h) (Or.inr ⟨by rfl,rfl⟩) hHeld ?rc52
    (try simp only [Act.put,sx])
    refine tk (i:=53) (oi:=⟨some 80,_,_,_,_,_⟩) (v:=undef) rfl (by kernel_rfl) (fun _ _ _ h=>h) (Or.inr ⟨by rfl,rfl⟩) hHeld ?rc53
    (try simp only [Act.put,sx])
    refine tk (i:=54) (oi:=⟨some 81,_,_,_,_,_⟩) (v:=undef) rfl (by kernel_rfl) (fun _ _ _ h=>h) (Or.inr ⟨by rfl,rfl⟩) hHeld ?rc54
    (try simp only [Act.put,sx])
    refine tk (i:=55) (oi:=⟨some 82,_,_,_,_,_⟩) (v:=undef) rfl (by kernel_rfl) (fun _ _ _ h=>h) (Or.inr ⟨by rfl,rfl⟩) hHeld ?rc55
    (try simp only [Act.put,sx])
    refine tk (i:=56) (oi:=⟨some 83,_,_,_,_,_⟩) (v:=undef) rfl (by kernel_rfl) (fun _ _ _ h=>h) (Or.inr ⟨by rfl,rfl⟩) hHeld ?rc56
    (try simp only [Act.put,sx])
    refine tk (i:=57) (oi:=⟨some 84,_,_,_,_,_⟩) (v:=undef) rfl (by kernel_rfl) (fun _ _ _ h=>h) (Or.inr ⟨by rfl,rfl⟩) hHeld ?rc57
    (try simp only [Act.put,sx])
    refine tk (i:=58) (oi:=⟨some 85,_,_,_,_,_⟩) (v:=undef) rfl (by kernel_rfl) (fun _ _ _ h=>h) (Or.inr ⟨by rfl,rfl⟩) hHeld ?rc58
    (try simp only [Act.put,sx])
    refine tk (i:=59) (oi:=⟨some 86,_,_,_,_,_⟩) (v:=undef) rfl (by kernel_rfl) (fun _ _ _ h=>h) (Or.inr ⟨by rfl,rfl⟩) hHeld ?rc59
    (try simp only [Act.put,sx])
    refine tk (i:=60) (oi:=⟨some 87,_,_,_,_,_⟩) (v:=undef) rfl (by kernel_rfl) (fun _ _ _ h=>h) (Or.inr ⟨by rfl,rfl⟩) hHeld ?rc60
    (try simp only [Act.put,sx])
    refine tk (i:=61) (oi:=⟨some 88,_,_,_,_,_⟩) (v:=undef) rfl (by kernel_rfl) (fun _ _ _ h=>h) (Or.inr ⟨by rfl,rfl⟩) hHeld ?rc61
    (try simp only [Act.put,sx])
    refine tqr 62 89 hHeld ?_
    (try simp only [Act.put,sx])
    refine wpAnyH_done (by kernel_rfl) ?_ _;go_wp2_with fail;go_meet;exact ⟨by rw [HE.out],zvs FF⟩
  | false=>
    cases h0:decide (0<=q) with
    | false=>
      have HE:Hid (C=false):=by show _=_;rw [HC.out];simp [hR,hf,ho1,ho2,hN,h0]
      refine wp_region_held_drew (S:=(fun W=>W.cell? ⟨w.heap.size,0,none⟩=some (.int .i64 op)/\W.cell? ⟨w.heap.size,1,none⟩=some (.int .i64 n)/\W.cell? ⟨w.heap.size,2,none⟩=some (.string mod)/\W.cell? ⟨w.heap.size,3,none⟩=some (.string name)/\W.cell? ⟨w.heap.size,4,none⟩=some (.slice aa l.length cap))) (by kernel_rfl) ?_ (fun hHeld=>?_)
      . (try dsimp only);go_keep
      refine tqr 0 27 hHeld ?_
      (try simp only [Act.put,sx])
      refine tqr 1 28 hHeld ?_
      (try simp only [Act.put,sx])
      refine wpAnyH_ready (rs:=[2]) (by kernel_rfl) (by simp) ?_;refine AllReadyH.cons rfl (fun K hK=>?_) AllReadyH.nil;go_simp
      go_wp2_with (go_at_call 259;refine (za5 hR _).mono ?_;rintro e w' ⟨rfl,rfl⟩)
      refine hK.out _ _ hHeld (fun hHeld=>?_);clear hK K;refine tqr 3 30 hHeld ?_
      (try simp only [Act.put,sx])
      refine tqr 4 31 hHeld ?_
      (try simp only [Act.put,sx])
      refine tqr 5 32 hHeld ?_
      (try simp only [Act.put,sx])
      refine tqr 6 33 hHeld ?_
      (try simp only [Act.put,sx])
      refine tqr 7 34 hHeld ?_
      (try simp only [Act.put,sx])
      refine wpAnyH_ready (rs:=[8]) (by kernel_rfl) (by simp) ?_;refine AllReadyH.cons rfl (fun K hK=>?_) AllReadyH.nil;go_simp
      go_wp2_with (go_at_call 245;refine (zby hf _ HWm.out HWn.out).mono ?_;rintro e w' ⟨rfl,hb⟩)
      have FF:=bx5 HBx HBz hb;clear hb;refine hK.out _ _ FF.out.2 (fun hHeld=>?_);clear hK K;refine tqr 9 36 hHeld ?_
      (try simp only [Act.put,sx])
      refine tqr 10 37 hHeld ?_
      (try simp only [Act.put,sx])
      refine tqr 11 38 hHeld ?_
      (try simp only [Act.put,sx])
      refine tqr 12 39 hHeld ?_
      (try simp only [Act.put,sx])
      refine tqr 13 40 hHeld ?_
      (try simp only [Act.put,sx])
      refine wpAnyH_ready (rs:=[14]) (by kernel_rfl) (by simp) ?_;refine AllReadyH.cons rfl (fun K hK=>?_) AllReadyH.nil;go_simp
      go_wp2_with (go_at_call 259;refine (za5 hR _).mono ?_;rintro e w' ⟨rfl,rfl⟩)
      refine hK.out _ _ hHeld (fun hHeld=>?_);clear hK K;refine tqr 15 42 hHeld ?_
      (try simp only [Act.put,sx])
      refine tqr 16 43 hHeld ?_
      (try simp only [Act.put,sx])
      refine tk (i:=17) (oi:=⟨some 44,_,_,_,_,_⟩) (v:=undef) rfl (by kernel_rfl) (fun _ _ _ h=>h) (Or.inr ⟨by rfl,rfl⟩) hHeld ?rd17
      (try simp only [Act.put,sx])
      refine tk (i:=18) (oi:=⟨some 45,_,_,_,_,_⟩) (v:=undef) rfl (by kernel_rfl) (fun _ _ _ h=>h) (Or.inr ⟨by rfl,rfl⟩) hHeld ?rd18
      (try simp only [Act.put,sx])
      refine tk (i:=19) (oi:=⟨some 46,_,_,_,_,_⟩) (v:=undef) rfl (by kernel_rfl) (fun _ _ _ h=>h) (Or.inr ⟨by rfl,rfl⟩) hHeld ?rd19
      (try simp only [Act.put,sx])
      refine tk (i:=20) (oi:=⟨some 47,_,_,_,_,_⟩) (v:=undef) rfl (by kernel_rfl) (fun _ _ _ h=>h) (Or.inr ⟨by rfl,rfl⟩) hHeld ?rd20
      (try simp only [Act.put,sx])
      refine tk (i:=21) (oi:=⟨some 48,_,_,_,_,_⟩) (v:=undef) rfl (by kernel_rfl) (fun _ _ _ h=>h) (Or.inr ⟨by rfl,rfl⟩) hHeld ?rd21
      (try simp only [Act.put,sx])
      refine tk (i:=22) (oi:=⟨some 49,_,_,_,_,_⟩) (v:=undef) rfl (by kernel_rfl) (fun _ _ _ h=>h) (Or.inr ⟨by rfl,rfl⟩) hHeld ?rd22
      (try simp only [Act.put,sx])
      refine tk (i:=23) (oi:=⟨some 50,_,_,_,_,_⟩) (v:=undef) rfl (by kernel_rfl) (fun _ _ _ h=>h) (Or.inr ⟨by rfl,rfl⟩) hHeld ?rd23
      (try simp only [Act.put,sx])
      refine tk (i:=24) (oi:=⟨some 51,_,_,_,_,_⟩) (v:=undef) rfl (by kernel_rfl) (fun _ _ _ h=>h) (Or.inr ⟨by rfl,rfl⟩) hHeld ?rd24
      (try simp only [Act.put,sx])
      refine tqr 25 52 hHeld ?_
      (try simp only [Act.put,sx])
      refine tqr 26 53 hHeld ?_
      (try simp only [Act.put,sx])
      refine tqr 27 54 hHeld ?_
      (try simp only [Act.put,sx])
      refine tqr 28 55 hHeld ?_
      (try simp only [Act.put,sx])
      refine tqr 29 56 hHeld ?_
      (try simp only [Act.put,sx])
      refine tqr 30 57 hHeld ?_
      (try simp only [Act.put,sx])
      refine tqr 31 58 hHeld ?_
      (try simp only [Act.put,sx])
      refine tk (i:=32) (oi:=⟨some 59,_,_,_,_,_⟩) (v:=undef) rfl (by kernel_rfl) (fun _ _ _ h=>h) (Or.inr ⟨by rfl,rfl⟩) hHeld ?rd32
      (try simp only [Act.put,sx])
      refine tk (i:=33) (oi:=⟨some 60,_,_,_,_,_⟩) (v:=undef) rfl (by kernel_rfl) (fun _ _ _ h=>h) (Or.inr ⟨by rfl,rfl⟩) hHeld ?rd33
      (try simp only [Act.put,sx])
      refine tk (i:=34) (oi:=⟨some 61,_,_,_,_,_⟩) (v:=undef) rfl (by kernel_rfl) (fun _ _ _ h=>h) (Or.inr ⟨by rfl,rfl⟩) hHeld ?rd34
      (try simp only [Act.put,sx])
      refine tk (i:=35) (oi:=⟨some 62,_,_,_,_,_⟩) (v:=undef) rfl (by kernel_rfl) (fun _ _ _ h=>h) (Or.inr ⟨by rfl,rfl⟩) hHeld ?rd35
      (try simp only [Act.put,sx])
      refine tqr 36 63 hHeld ?_
      (try simp only [Act.put,sx])
      refine tqr 37 64 hHeld ?_
      (try simp only [Act.put,sx])
      refine tqr 38 65 hHeld ?_
      (try simp only [Act.put,sx])
      refine tqr 39 66 hHeld ?_
      (try simp only [Act.put,sx])
      refine tqr 40 67 hHeld ?_
      (try simp only [Act.put,sx])
      refine tqr 41 68 hHeld ?_
      (try simp only [Act.put,sx])
      refine tqr 42 69 hHeld ?_
      (try simp only [Act.put,sx])
      refine tqr 43 70 hHeld ?_
      (try simp only [Act.put,sx])
      refine tqr 44 71 hHeld ?_
      (try simp only [Act.put,sx])
      refine tqr 45 72 hHeld ?_
      (try simp only [Act.put,sx])
      refine tqr 46 73 hHeld ?_
      (try simp only [Act.put,sx])
      refine tqr 47 74 hHeld ?_
      (try simp only [Act.put,sx])
      refine tqr 48 75 hHeld ?_
      (try simp only [Act.put,sx])
      refine tqr 49 76 hHeld ?_
      (try simp only [Act.put,sx])
      refine tqr 50 77 hHeld ?_
      (try simp only [Act.put,sx])
      refine wpAnyH_ready (rs:=[51]) (by kernel_rfl) (by simp) ?_;refine AllReadyH.cons rfl (fun K hK=>?_) AllReadyH.nil;go_simp
      go_wp2_with (go_at_call 281;refine (zba hq _).mono ?_;rintro e w' ⟨rfl,rfl⟩)
      refine hK.out _ _ hHeld (fun hHeld=>?_);clear hK K;refine tqr 52 79 hHeld ?_
      (try simp only [Act.put,sx])
      refine tqr 53 80 hHeld ?_
      (try simp only [Act.put,sx])
      refine tk (i:=54) (oi:=⟨some 81,_,_,_,_,_⟩) (v:=undef) rfl (by kernel_rfl) (fun _ _ _ h=>h) (Or.inr ⟨by rfl,rfl⟩) hHeld ?rd54
      (try simp only [Act.put,sx])
      refine tk (i:=55) (oi:=⟨some 82,_,_,_,_,_⟩) (v:=undef) rfl (by kernel_rfl) (fun _ _ _ h=>h) (Or.inr ⟨by rfl,rfl⟩) hHeld ?rd55
      (try simp only [Act.put,sx])
      refine tk (i:=56) (oi:=⟨some 83,_,_,_,_,_⟩) (v:=undef) rfl (by kernel_rfl) (fun _ _ _ h=>h) (Or.inr ⟨by rfl,rfl⟩) hHeld ?rd56
      (try simp only [Act.put,sx])
      refine tk (i:=57) (oi:=⟨some 84,_,_,_,_,_⟩) (v:=undef) rfl (by kernel_rfl) (fun _ _ _ h=>h) (Or.inr ⟨by rfl,rfl⟩) hHeld ?rd57
      (try simp only [Act.put,sx])
      refine tk (i:=58) (oi:=⟨some 85,_,_,_,_,_⟩) (v:=undef) rfl (by kernel_rfl) (fun _ _ _ h=>h) (Or.inr ⟨by rfl,rfl⟩) hHeld ?rd58
      (try simp only [Act.put,sx])
      refine tk (i:=59) (oi:=⟨some 86,_,_,_,_,_⟩) (v:=undef) rfl (by kernel_rfl) (fun _ _ _ h=>h) (Or.inr ⟨by rfl,rfl⟩) hHeld ?rd59
      (try simp only [Act.put,sx])
      refine tk (i:=60) (oi:=⟨some 87,_,_,_,_,_⟩) (v:=undef) rfl (by kernel_rfl) (fun _ _ _ h=>h) (Or.inr ⟨by rfl,rfl⟩) hHeld ?rd60
      (try simp only [Act.put,sx])
      refine tqr 61 88 hHeld ?_
      (try simp only [Act.put,sx])
      refine tqr 62 89 hHeld ?_
      (try simp only [Act.put,sx])
      refine wpAnyH_done (by kernel_rfl) ?_ _;go_wp2_with fail;go_meet;exact ⟨by rw [HE.out],zvs FF⟩
    | true=>
      cases hl:((l.length:Int) != q) with
      | false=>
        have HE:Hid (C=false):=by show _=_;rw [HC.out];simp [hR,hf,ho1,ho2,hN,h0,hl]
        refine wp_region_held_drew (S:=(fun W=>W.cell? ⟨w.heap.size,0,none⟩=some (.int .i64 op)/\W.cell? ⟨w.heap.size,1,none⟩=some (.int .i64 n)/\W.cell? ⟨w.heap.size,2,none⟩=some (.string mod)/\W.cell? ⟨w.heap.size,3,none⟩=some (.string name)/\W.cell? ⟨w.heap.size,4,none⟩=some (.slice aa l.length cap))) (by kernel_rfl) ?_ (fun hHeld=>?_)
        . (try dsimp only);go_keep
        refine tqr 0 27 hHeld ?_
        (try simp only [Act.put,sx])
        refine tqr 1 28 hHeld ?_
        (try simp only [Act.put,sx])
        refine wpAnyH_ready (rs:=[2]) (by kernel_rfl) (by simp) ?_;refine AllReadyH.cons rfl (fun K hK=>?_) AllReadyH.nil;go_simp
        go_wp2_with (go_at_call 259;refine (za5 hR _).mono ?_;rintro e w' ⟨rfl,rfl⟩)
        refine hK.out _ _ hHeld (fun hHeld=>?_);clear hK K;refine tqr 3 30 hHeld ?_
        (try simp only [Act.put,sx])
        refine tqr 4 31 hHeld ?_
        (try simp only [Act.put,sx])
        refine tqr 5 32 hHeld ?_
        (try simp only [Act.put,sx])
        refine tqr 6 33 hHeld ?_
        (try simp only [Act.put,sx])
        refine tqr 7 34 hHeld ?_
        (try simp only [Act.put,sx])
        refine wpAnyH_ready (rs:=[8]) (by kernel_rfl) (by simp) ?_;refine AllReadyH.cons rfl (fun K hK=>?_) AllReadyH.nil;go_simp
        go_wp2_with (go_at_call 245;refine (zby hf _ HWm.out HWn.out).mono ?_;rintro e w' ⟨rfl,hb⟩)
        have FF:=bx5 HBx HBz hb;clear hb;refine hK.out _ _ FF.out.2 (fun hHeld=>?_);clear hK K;refine tqr 9 36 hHeld ?_
        (try simp only [Act.put,sx])
        refine tqr 10 37 hHeld ?_
        (try simp only [Act.put,sx])
        refine tqr 11 38 hHeld ?_
        (try simp only [Act.put,sx])
        refine tqr 12 39 hHeld ?_
        (try simp only [Act.put,sx])
        refine tqr 13 40 hHeld ?_
        (try simp only [Act.put,sx])
        refine wpAnyH_ready (rs:=[14]) (by kernel_rfl) (by simp) ?_;refine AllReadyH.cons rfl (fun K hK=>?_) AllReadyH.nil;go_simp
        go_wp2_with (go_at_call 259;refine (za5 hR _).mono ?_;rintro e w' ⟨rfl,rfl⟩)
        refine hK.out _ _ hHeld (fun hHeld=>?_);clear hK K;refine tqr 15 42 hHeld ?_
        (try simp only [Act.put,sx])
        refine tqr 16 43 hHeld ?_
        (try simp only [Act.put,sx])
        refine tk (i:=17) (oi:=⟨some 44,_,_,_,_,_⟩) (v:=undef) rfl (by kernel_rfl) (fun _ _ _ h=>h) (Or.inr ⟨by rfl,rfl⟩) hHeld ?re17
        (try simp only [Act.put,sx])
        refine tk (i:=18) (oi:=⟨some 45,_,_,_,_,_⟩) (v:=undef) rfl (by kernel_rfl) (fun _ _ _ h=>h) (Or.inr ⟨by rfl,rfl⟩) hHeld ?re18
        (try simp only [Act.put,sx])
        refine tk (i:=19) (oi:=⟨some 46,_,_,_,_,_⟩) (v:=undef) rfl (by kernel_rfl) (fun _ _ _ h=>h) (Or.inr ⟨by rfl,rfl⟩) hHeld ?re19
        (try simp only [Act.put,sx])
        refine tk (i:=20) (oi:=⟨some 47,_,_,_,_,_⟩) (v:=undef) rfl (by kernel_rfl) (fun _ _ _ h=>h) (Or.inr ⟨by rfl,rfl⟩) hHeld ?re20
        (try simp only [Act.put,sx])
        refine tk (i:=21) (oi:=⟨some 48,_,_,_,_,_⟩) (v:=undef) rfl (by kernel_rfl) (fun _ _ _ h=>h) (Or.inr ⟨by rfl,rfl⟩) hHeld ?re21
        (try simp only [Act.put,sx])
        refine tk (i:=22) (oi:=⟨some 49,_,_,_,_,_⟩) (v:=undef) rfl (by kernel_rfl) (fun _ _ _ h=>h) (Or.inr ⟨by rfl,rfl⟩) hHeld ?re22
        (try simp only [Act.put,sx])
        refine tk (i:=23) (oi:=⟨some 50,_,_,_,_,_⟩) (v:=undef) rfl (by kernel_rfl) (fun _ _ _ h=>h) (Or.inr ⟨by rfl,rfl⟩) hHeld ?re23
        (try simp only [Act.put,sx])
        refine tk (i:=24) (oi:=⟨some 51,_,_,_,_,_⟩) (v:=undef) rfl (by kernel_rfl) (fun _ _ _ h=>h) (Or.inr ⟨by rfl,rfl⟩) hHeld ?re24
        (try simp only [Act.put,sx])
        refine tqr 25 52 hHeld ?_
        (try simp only [Act.put,sx])
        refine tqr 26 53 hHeld ?_
        (try simp only [Act.put,sx])
        refine tqr 27 54 hHeld ?_
        (try simp only [Act.put,sx])
        refine tqr 28 55 hHeld ?_
        (try simp only [Act.put,sx])
        refine tqr 29 56 hHeld ?_
        (try simp only [Act.put,sx])
        refine tqr 30 57 hHeld ?_
        (try simp only [Act.put,sx])
        refine tqr 31 58 hHeld ?_
        (try simp only [Act.put,sx])
        refine tk (i:=32) (oi:=⟨some 59,_,_,_,_,_⟩) (v:=undef) rfl (by kernel_rfl) (fun _ _ _ h=>h) (Or.inr ⟨by rfl,rfl⟩) hHeld ?re32
        (try simp only [Act.put,sx])
        refine tk (i:=33) (oi:=⟨some 60,_,_,_,_,_⟩) (v:=undef) rfl (by kernel_rfl) (fun _ _ _ h=>h) (Or.inr ⟨by rfl,rfl⟩) hHeld ?re33
        (try simp only [Act.put,sx])
        refine tk (i:=34) (oi:=⟨some 61,_,_,_,_,_⟩) (v:=undef) rfl (by kernel_rfl) (fun _ _ _ h=>h) (Or.inr ⟨by rfl,rfl⟩) hHeld ?re34
        (try simp only [Act.put,sx])
        refine tk (i:=35) (oi:=⟨some 62,_,_,_,_,_⟩) (v:=undef) rfl (by kernel_rfl) (fun _ _ _ h=>h) (Or.inr ⟨by rfl,rfl⟩) hHeld ?re35
        (try simp only [Act.put,sx])
        refine tqr 36 63 hHeld ?_
        (try simp only [Act.put,sx])
        refine tqr 37 64 hHeld ?_
        (try simp only [Act.put,sx])
        refine tqr 38 65 hHeld ?_
        (try simp only [Act.put,sx])
        refine tqr 39 66 hHeld ?_
        (try simp only [Act.put,sx])
        refine tqr 40 67 hHeld ?_
        (try simp only [Act.put,sx])
        refine tqr 41 68 hHeld ?_
        (try simp only [Act.put,sx])
        refine tqr 42 69 hHeld ?_
        (try simp only [Act.put,sx])
        refine tqr 43 70 hHeld ?_
        (try simp only [Act.put,sx])
        refine tqr 44 71 hHeld ?_
        (try simp only [Act.put,sx])
        refine tqr 45 72 hHeld ?_
        (try simp only [Act.put,sx])
        refine tqr 46 73 hHeld ?_
        (try simp only [Act.put,sx])
        refine tqr 47 74 hHeld ?_
        (try simp only [Act.put,sx])
        refine tqr 48 75 hHeld ?_
        (try simp only [Act.put,sx])
        refine tqr 49 76 hHeld ?_
        (try simp only [Act.put,sx])
        refine tqr 50 77 hHeld ?_
        (try simp only [Act.put,sx])
        refine wpAnyH_ready (rs:=[51]) (by kernel_rfl) (by simp) ?_;refine AllReadyH.cons rfl (fun K hK=>?_) AllReadyH.nil;go_simp
        go_wp2_with (go_at_call 281;refine (zba hq _).mono ?_;rintro e w' ⟨rfl,rfl⟩)
        refine hK.out _ _ hHeld (fun hHeld=>?_);clear hK K;refine tqr 52 79 hHeld ?_
        (try simp only [Act.put,sx])
        refine tqr 53 80 hHeld ?_
        (try simp only [Act.put,sx])
        refine tqr 54 81 hHeld ?_
        (try simp only [Act.put,sx])
        refine tqr 55 82 hHeld ?_
        (try simp only [Act.put,sx])
        refine tqr 56 83 hHeld ?_
        (try simp only [Act.put,sx])
        refine tqr 57 84 hHeld ?_
        (try simp only [Act.put,sx])
        refine tqr 58 85 hHeld ?_
        (try simp only [Act.put,sx])
        refine wpAnyH_ready (rs:=[59]) (by kernel_rfl) (by simp) ?_;refine AllReadyH.cons rfl (fun K hK=>?_) AllReadyH.nil;go_simp
        go_wp2_with (go_at_call 281;refine (zba hq _).mono ?_;rintro e w' ⟨rfl,rfl⟩)
        refine hK.out _ _ hHeld (fun hHeld=>?_);clear hK K;refine tqr 60 87 hHeld ?_
        (try simp only [Act.put,sx])
        refine tqr 61 88 hHeld ?_
        (try simp only [Act.put,sx])
        refine tqr 62 89 hHeld ?_
        (try simp only [Act.put,sx])
        refine wpAnyH_done (by kernel_rfl) ?_ _;go_wp2_with fail;go_meet;exact ⟨by rw [HE.out],zvs FF⟩
      | true=>
        have HE:Hid (C=true):=by show _=_;rw [HC.out];simp [hR,hf,ho1,ho2,hN,h0,hl]
        refine wp_region_held_drew (S:=(fun W=>W.cell? ⟨w.heap.size,0,none⟩=some (.int .i64 op)/\W.cell? ⟨w.heap.size,1,none⟩=some (.int .i64 n)/\W.cell? ⟨w.heap.size,2,none⟩=some (.string mod)/\W.cell? ⟨w.heap.size,3,none⟩=some (.string name)/\W.cell? ⟨w.heap.size,4,none⟩=some (.slice aa l.length cap))) (by kernel_rfl) ?_ (fun hHeld=>?_)
        . (try dsimp only);go_keep
        refine tqr 0 27 hHeld ?_
        (try simp only [Act.put,sx])
        refine tqr 1 28 hHeld ?_
        (try simp only [Act.put,sx])
        refine wpAnyH_ready (rs:=[2]) (by kernel_rfl) (by simp) ?_;refine AllReadyH.cons rfl (fun K hK=>?_) AllReadyH.nil;go_simp
        go_wp2_with (go_at_call 259;refine (za5 hR _).mono ?_;rintro e w' ⟨rfl,rfl⟩)
        refine hK.out _ _ hHeld (fun hHeld=>?_);clear hK K;refine tqr 3 30 hHeld ?_
        (try simp only [Act.put,sx])
        refine tqr 4 31 hHeld ?_
        (try simp only [Act.put,sx])
        refine tqr 5 32 hHeld ?_
        (try simp only [Act.put,sx])
        refine tqr 6 33 hHeld ?_
        (try simp only [Act.put,sx])
        refine tqr 7 34 hHeld ?_
        (try simp only [Act.put,sx])
        refine wpAnyH_ready (rs:=[8]) (by kernel_rfl) (by simp) ?_;refine AllReadyH.cons rfl (fun K hK=>?_) AllReadyH.nil;go_simp
        go_wp2_with (go_at_call 245;refine (zby hf _ HWm.out HWn.out).mono ?_;rintro e w' ⟨rfl,hb⟩)
        have FF:=bx5 HBx HBz hb;clear hb;refine hK.out _ _ FF.out.2 (fun hHeld=>?_);clear hK K;refine tqr 9 36 hHeld ?_
        (try simp only [Act.put,sx])
        refine tqr 10 37 hHeld ?_
        (try simp only [Act.put,sx])
        refine tqr 11 38 hHeld ?_
        (try simp only [Act.put,sx])
        refine tqr 12 39 hHeld ?_
        (try simp only [Act.put,sx])
        refine tqr 13 40 hHeld ?_
        (try simp only [Act.put,sx])
        refine wpAnyH_ready (rs:=[14]) (by kernel_rfl) (by simp) ?_;refine AllReadyH.cons rfl (fun K hK=>?_) AllReadyH.nil;go_simp
        go_wp2_with (go_at_call 259;refine (za5 hR _).mono ?_;rintro e w' ⟨rfl,rfl⟩)
        refine hK.out _ _ hHeld (fun hHeld=>?_);clear hK K;refine tqr 15 42 hHeld ?_
        (try simp only [Act.put,sx])
        refine tqr 16 43 hHeld ?_
        (try simp only [Act.put,sx])
        refine tk (i:=17) (oi:=⟨some 44,_,_,_,_,_⟩) (v:=undef) rfl (by kernel_rfl) (fun _ _ _ h=>h) (Or.inr ⟨by rfl,rfl⟩) hHeld ?rf17
        (try simp only [Act.put,sx])
        refine tk (i:=18) (oi:=⟨some 45,_,_,_,_,_⟩) (v:=undef) rfl (by kernel_rfl) (fun _ _ _ h=>h) (Or.inr ⟨by rfl,rfl⟩) hHeld ?rf18
        (try simp only [Act.put,sx])
        refine tk (i:=19) (oi:=⟨some 46,_,_,_,_,_⟩) (v:=undef) rfl (by kernel_rfl) (fun _ _ _ h=>h) (Or.inr ⟨by rfl,rfl⟩) hHeld ?rf19
        (try simp only [Act.put,sx])
        refine tk (i:=20) (oi:=⟨some 47,_,_,_,_,_⟩) (v:=undef) rfl (by kernel_rfl) (fun _ _ _ h=>h) (Or.inr ⟨by rfl,rfl⟩) hHeld ?rf20
        (try simp only [Act.put,sx])
        refine tk (i:=21) (oi:=⟨some 48,_,_,_,_,_⟩) (v:=undef) rfl (by kernel_rfl) (fun _ _ _ h=>h) (Or.inr ⟨by rfl,rfl⟩) hHeld ?rf21
        (try simp only [Act.put,sx])
        refine tk (i:=22) (oi:=⟨some 49,_,_,_,_,_⟩) (v:=undef) rfl (by kernel_rfl) (fun _ _ _ h=>h) (Or.inr ⟨by rfl,rfl⟩) hHeld ?rf22
        (try simp only [Act.put,sx])
        refine tk (i:=23) (oi:=⟨some 50,_,_,_,_,_⟩) (v:=undef) rfl (by kernel_rfl) (fun _ _ _ h=>h) (Or.inr ⟨by rfl,rfl⟩) hHeld ?rf23
        (try simp only [Act.put,sx])
        refine tk (i:=24) (oi:=⟨some 51,_,_,_,_,_⟩) (v:=undef) rfl (by kernel_rfl) (fun _ _ _ h=>h) (Or.inr ⟨by rfl,rfl⟩) hHeld ?rf24
        (try simp only [Act.put,sx])
        refine tqr 25 52 hHeld ?_
        (try simp only [Act.put,sx])
        refine tqr 26 53 hHeld ?_
        (try simp only [Act.put,sx])
        refine tqr 27 54 hHeld ?_
        (try simp only [Act.put,sx])
        refine tqr 28 55 hHeld ?_
        (try simp only [Act.put,sx])
        refine tqr 29 56 hHeld ?_
        (try simp only [Act.put,sx])
        refine tqr 30 57 hHeld ?_
        (try simp only [Act.put,sx])
        refine tqr 31 58 hHeld ?_
        (try simp only [Act.put,sx])
        refine tk (i:=32) (oi:=⟨some 59,_,_,_,_,_⟩) (v:=undef) rfl (by kernel_rfl) (fun _ _ _ h=>h) (Or.inr ⟨by rfl,rfl⟩) hHeld ?rf32
        (try simp only [Act.put,sx])
        refine tk (i:=33) (oi:=⟨some 60,_,_,_,_,_⟩) (v:=undef) rfl (by kernel_rfl) (fun _ _ _ h=>h) (Or.inr ⟨by rfl,rfl⟩) hHeld ?rf33
        (try simp only [Act.put,sx])
        refine tk (i:=34) (oi:=⟨some 61,_,_,_,_,_⟩) (v:=undef) rfl (by kernel_rfl) (fun _ _ _ h=>h) (Or.inr ⟨by rfl,rfl⟩) hHeld ?rf34
        (try simp only [Act.put,sx])
        refine tk (i:=35) (oi:=⟨some 62,_,_,_,_,_⟩) (v:=undef) rfl (by kernel_rfl) (fun _ _ _ h=>h) (Or.inr ⟨by rfl,rfl⟩) hHeld ?rf35
        (try simp only [Act.put,sx])
        refine tqr 36 63 hHeld ?_
        (try simp only [Act.put,sx])
        refine tqr 37 64 hHeld ?_
        (try simp only [Act.put,sx])
        refine tqr 38 65 hHeld ?_
        (try simp only [Act.put,sx])
        refine tqr 39 66 hHeld ?_
        (try simp only [Act.put,sx])
        refine tqr 40 67 hHeld ?_
        (try simp only [Act.put,sx])
        refine tqr 41 68 hHeld ?_
        (try simp only [Act.put,sx])
        refine tqr 42 69 hHeld ?_
        (try simp only [Act.put,sx])
        refine tqr 43 70 hHeld ?_
        (try simp only [Act.put,sx])
        refine tqr 44 71 hHeld ?_
        (try simp only [Act.put,sx])
        refine tqr 45 72 hHeld ?_
        (try simp only [Act.put,sx])
        refine tqr 46 73 hHeld ?_
        (try simp only [Act.put,sx])
        refine tqr 47 74 hHeld ?_
        (try simp only [Act.put,sx])
        refine tqr 48 75 hHeld ?_
        (try simp only [Act.put,sx])
        refine tqr 49 76 hHeld ?_
        (try simp only [Act.put,sx])
        refine tqr 50 77 hHeld ?_
        (try simp only [Act.put,sx])
        refine wpAnyH_ready (rs:=[51]) (by kernel_rfl) (by simp) ?_;refine AllReadyH.cons rfl (fun K hK=>?_) AllReadyH.nil;go_simp
        go_wp2_with (go_at_call 281;refine (zba hq _).mono ?_;rintro e w' ⟨rfl,rfl⟩)
        refine hK.out _ _ hHeld (fun hHeld=>?_);clear hK K;refine tqr 52 79 hHeld ?_
        (try simp only [Act.put,sx])
        refine tqr 53 80 hHeld ?_
        (try simp only [Act.put,sx])
        refine tqr 54 81 hHeld ?_
        (try simp only [Act.put,sx])
        refine tqr 55 82 hHeld ?_
        (try simp only [Act.put,sx])
        refine tqr 56 83 hHeld ?_
        (try simp only [Act.put,sx])
        refine tqr 57 84 hHeld ?_
        (try simp only [Act.put,sx])
        refine tqr 58 85 hHeld ?_
        (try simp only [Act.put,sx])
        refine wpAnyH_ready (rs:=[59]) (by kernel_rfl) (by simp) ?_;refine AllReadyH.cons rfl (fun K hK=>?_) AllReadyH.nil;go_simp
        go_wp2_with (go_at_call 281;refine (zba hq _).mono ?_;rintro e w' ⟨rfl,rfl⟩)
        refine hK.out _ _ hHeld (fun hHeld=>?_);clear hK K;refine tqr 60 87 hHeld ?_
        (try simp only [Act.put,sx])
        refine tqr 61 88 hHeld ?_
        (try simp only [Act.put,sx])
        refine tqr 62 89 hHeld ?_
        (try simp only [Act.put,sx])
        refine wpAnyH_done (by kernel_rfl) ?_ _;go_wp2_with fail;go_meet;exact ⟨by rw [HE.out],zvs FF⟩
 case rest=>
  obtain ⟨rfl,HBc⟩:=hcut;have HB0':Hid (Below w.heap.size w wc):=thenB HB0.out HBc.out;have HBx':Hid (Blk wc w.heap.size [.int .i64 op,.int .i64 n,.string mod,.string name,.slice aa l.length cap]):=HBx.out.later HBc.out;clear HB0 HBx HBc HC;have HB0:=HB0';have HBx:=HBx';clear HB0' HBx';have x4:=HBx.out.cell 4 _ rfl;have xz:=HBx.out.lt
  cases hCb:C with
  | true=>
    subst hCb;go_wp2_with fail;go_ret;exact ⟨zab (HR.out rfl),HB0.out⟩
  | false =>
    subst hCb;go_wp2_with fail
    go_loopw [7] (fun i wr=>∃ j:Nat,j<=l.length/\i = .int .i64 j/\(l.take j).any (eL 3 k)=false/\Below w.heap.size w wr/\Blk wr w.heap.size [.int .i64 op,.int .i64 n,.string mod,.string name,.slice aa l.length cap]) (fun i _=>l.length - (intOf i).toNat)
    case atStart=>exact ⟨0,vad _,rfl,rfl,HB0.out,HBx.out⟩
    case round=>
     obtain ⟨j,hj,rfl,hall,hb,hB⟩:=hrel;clear HBx HB0;clear x4 xz;have q4:=hB.cell 4 _ rfl;have qz:=hB.lt;have HB:Hid (Blk wr w.heap.size [.int .i64 op,.int .i64 n,.string mod,.string name,.slice aa l.length cap]):=hB;have HA:Hid ((l.take j).any (eL 3 k)=false):=hall;clear hall hB
     by_cases hlt:j<l.length
     . obtain ⟨b,off,a2,cp,rfl,hx⟩:=(HD.out.later hb).ex j hlt
       have hc0:=hx.c0;have hc1:=hx.c1;have hc2:=hx.c2;have hc3:=hx.c3;have hc4:=hx.c4;have hlb:=hx.lt;have HX:Hid (ExAt wr A b (off+j*5) l[j] a2 cp):=hx;clear hx;go_wp2_with fail;refine (HI.out l[j] a2 cp _ HX.out.args HX.out.wm HX.out.wna).mono ?_
       cases hr:eL 3 k l[j] with
       | true=>
         have HF:Hid (l.any (eL 3 k)=true):=zbj l _ j hlt hr;rintro e w3 ⟨rfl,hb3⟩;go_wp2_with fail;go_ret;exact ⟨zab (HR.out (by rw [HF.out,vby])),thenB hb hb3⟩
       | false=>
         have HT:Hid ((l.take (j+1)).any (eL 3 k)=false):=by
          show _=_
          rw [zat l _ j hlt,HA.out,hr];rfl
         rintro e w3 ⟨rfl,hb3⟩;go_wp2_with fail;go_roundw
         case rel=>exact ⟨j+1,by omega,by go_num,HT.out,thenB hb hb3,HB.out.later hb3⟩
         case measure=>simp [intOf];omega
     . have HT:Hid (l.any (eL 3 k)=false):=zbh HA.out hlt
       go_wp2_with fail;go_ret;exact ⟨zab (HR.out (by rw [HT.out];rfl)),hb⟩
end Go.Proofs.YtndkhgakfodldaaGreatDoor
