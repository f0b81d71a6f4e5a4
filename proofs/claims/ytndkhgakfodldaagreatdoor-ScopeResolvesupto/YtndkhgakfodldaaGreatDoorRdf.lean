import Derived.Test.YtndkhgakfodldaaGreatDoorRc
namespace Go.Proofs.YtndkhgakfodldaaGreatDoor
set_option maxRecDepth 100000
set_option maxHeartbeats 8000000
open Go.RowKit Go.Maps
theorem zsz (A:Nat->Prop) (k:Nat) (op:Int) (mod name:ByteArray) (l:List Ex) (bd ot:List St) (aa ab ac:OA) (cap cab cac:Nat) (deep:Int) (w:World) (hbd:l.length<=17592186044416) (hd1:1<=deep) (hd6:deep<=6)
 (HI:Hid (∀ (l:List St) (a:OA) (cap:Nat) (w:World),DAt w A a l.length (za2 l)->Calls Tryz.prog 156 #[.slice a l.length cap,.int .i64 3,.int .i64 (deep+1)] w fun e w'=>e = .returned (.bool (bL 3 k l))/\Below w.heap.size w w'))
 (HD:Hid (DAt w A aa l.length (za9 l))) (HDb:Hid (DAt w A ab bd.length (za2 bd))) (HDo:Hid (DAt w A ac ot.length (za2 ot))) (HWm:Hid (mod.size<=maxLen)) (HWn:Hid (name.size<=maxLen))
 (hR:inB op 1 3=true) (hf:zc7 mod name=true) (h0:decide (0<=stN op)=false) :
 Calls Tryz.prog 191 #[.agg #[.int .i64 op,.string mod,.string name,.slice aa l.length cap,.slice ab bd.length cab,.slice ac ot.length cac],.int .i64 3,.int .i64 deep] w fun e w'=>e = .returned (.bool (sL 3 k (St.mk op mod name l bd ot)))/\Below w.heap.size w w':=by
 have HR:Hid (∀ {b:Bool},(zh8 3 (St.mk op mod name l bd ot)||(l.any (eL 3 6)||(((op == 4||op == 5)||decide (0<bd.length))&&bL 3 k bd||(decide (0<ot.length)&&bL 3 k ot))))=b->b=sL 3 k (St.mk op mod name l bd ot)):=fun h=>by rw [← h];rfl
 have HBx:Hid (Blk (w.alloc (.cells #[.int .i64 op,.string mod,.string name,.slice aa l.length cap,.slice ab bd.length cab,.slice ac ot.length cac] 176)) w.heap.size [.int .i64 op,.string mod,.string name,.slice aa l.length cap,.slice ab bd.length cab,.slice ac ot.length cac]):=Blk.new w _ _;have HB0:Hid (Below w.heap.size w (w.alloc (.cells #[.int .i64 op,.string mod,.string name,.slice aa l.length cap,.slice ab bd.length cab,.slice ac ot.length cac] 176))):=al1 _ _;have HC:Hid (zh8 3 (St.mk op mod name l bd ot)=((inB op 1 3 && !zc7 mod name)||(!inB op 1 3&&(!mod.toList.isEmpty || !name.toList.isEmpty))||(decide (0<=stN op)&&((l.length:Int) != stN op))||(op != 4&&op != 5&&decide (0<bd.length))||(op != 4&&decide (0<ot.length)))):=rfl;generalize hCC:zh8 3 (St.mk op mod name l bd ot)=C at HC HR;clear hCC;go_enter Tryz.func191,Tryz.ntmps191
 go_upto_region 9 with fail;generalize hW0:w.alloc (.cells #[.int .i64 op,.string mod,.string name,.slice aa l.length cap,.slice ab bd.length cab,.slice ac ot.length cac] 176)=W0 at *;clear hW0
 go_cut [92] (fun v wc=>v = .bool C/\Hid (Below W0.heap.size W0 wc))
 case first=>
  clear HD HDb HDo HI HR HB0;obtain ⟨x0,x1,x2,x3,x4,x5,xz⟩:=HBx.out.c6;have HBz:Hid (Below W0.heap.size W0 W0.drew):=(Below.refl _ _).drew;generalize hq:stN op=q at *;simp only [vdg,vdb,vcb];have h4:(op != 4)=true:=bne_iff_ne.2 (by simp [inB] at hR;omega);have h5:(op != 5)=true:=bne_iff_ne.2 (by simp [inB] at hR;omega)
  cases hb:decide (0<bd.length) with
  | true=>
    have HE:Hid (C=true):=by show _=_;rw [HC.out];simp [hR,hf,h0,h4,h5,hb]
    refine wp_region_held_drew (S:=(fun W=>W.cell? ⟨w.heap.size,0,none⟩=some (.int .i64 op)/\W.cell? ⟨w.heap.size,1,none⟩=some (.string mod)/\W.cell? ⟨w.heap.size,2,none⟩=some (.string name)/\W.cell? ⟨w.heap.size,3,none⟩=some (.slice aa l.length cap)/\W.cell? ⟨w.heap.size,4,none⟩=some (.slice ab bd.length cab)/\W.cell? ⟨w.heap.size,5,none⟩=some (.slice ac ot.length cac))) (by kernel_rfl) ?_ (fun hHeld=>?_)
    . (try dsimp only);go_keep
    refine tqr 0 24 hHeld ?_
    (try simp only [Act.put,sx])
    refine tqr 1 25 hHeld ?_
    (try simp only [Act.put,sx])
    refine wpAnyH_ready (rs:=[2]) (by kernel_rfl) (by simp) ?_;refine AllReadyH.cons rfl (fun K hK=>?_) AllReadyH.nil;go_simp
    go_wp2_with (go_at_call 163;refine (za6 hR _).mono ?_;rintro e w' ⟨rfl,rfl⟩)
    refine hK.out _ _ hHeld (fun hHeld=>?_);clear hK K;refine tqr 3 27 hHeld ?_
    (try simp only [Act.put,sx])
    refine tqr 4 28 hHeld ?_
    (try simp only [Act.put,sx])
    refine tqr 5 29 hHeld ?_
    (try simp only [Act.put,sx])
    refine tqr 6 30 hHeld ?_
    (try simp only [Act.put,sx])
    refine tqr 7 31 hHeld ?_
    (try simp only [Act.put,sx])
    refine wpAnyH_ready (rs:=[8]) (by kernel_rfl) (by simp) ?_;refine AllReadyH.cons rfl (fun K hK=>?_) AllReadyH.nil;go_simp
    go_wp2_with (go_at_call 245;refine (zby hf _ HWm.out HWn.out).mono ?_;rintro e w' ⟨rfl,hb⟩)
    have FF:=bx6 HBx HBz hb;clear hb;refine hK.out _ _ FF.out.2 (fun hHeld=>?_);clear hK K;refine tqr 9 33 hHeld ?_
    (try simp only [Act.put,sx])
    refine tqr 10 34 hHeld ?_
    (try simp only [Act.put,sx])
    refine tqr 11 35 hHeld ?_
    (try simp only [Act.put,sx])
    refine tqr 12 36 hHeld ?_
    (try simp only [Act.put,sx])
    refine tqr 13 37 hHeld ?_
    (try simp only [Act.put,sx])
    refine wpAnyH_ready (rs:=[14]) (by kernel_rfl) (by simp) ?_;refine AllReadyH.cons rfl (fun K hK=>?_) AllReadyH.nil;go_simp
    go_wp2_with (go_at_call 163;refine (za6 hR _).mono ?_;rintro e w' ⟨rfl,rfl⟩)
    refine hK.out _ _ hHeld (fun hHeld=>?_);clear hK K;refine tqr 15 39 hHeld ?_
    (try simp only [Act.put,sx])
    refine tqr 16 40 hHeld ?_
    (try simp only [Act.put,sx])
    refine tk (i:=17) (oi:=⟨some 41,_,_,_,_,_⟩) (v:=undef) rfl (by kernel_rfl) (fun _ _ _ h=>h) (Or.inr ⟨by rfl,rfl⟩) hHeld ?rc17
    (try simp only [Act.put,sx])
    refine tk (i:=18) (oi:=⟨some 42,_,_,_,_,_⟩) (v:=undef) rfl (by kernel_rfl) (fun _ _ _ h=>h) (Or.inr ⟨by rfl,rfl⟩) hHeld ?rc18
    (try simp only [Act.put,sx])
    refine tk (i:=19) (oi:=⟨some 43,_,_,_,_,_⟩) (v:=undef) rfl (by kernel_rfl) (fun _ _ _ h=>h) (Or.inr ⟨by rfl,rfl⟩) hHeld ?rc19
    (try simp only [Act.put,sx])
    refine tk (i:=20) (oi:=⟨some 44,_,_,_,_,_⟩) (v:=undef) rfl (by kernel_rfl) (fun _ _ _ h=>h) (Or.inr ⟨by rfl,rfl⟩) hHeld ?rc20
    (try simp only [Act.put,sx])
    refine tk (i:=21) (oi:=⟨some 45,_,_,_,_,_⟩) (v:=undef) rfl (by kernel_rfl) (fun _ _ _ h=>h) (Or.inr ⟨by rfl,rfl⟩) hHeld ?rc21
    (try simp only [Act.put,sx])
    refine tk (i:=22) (oi:=⟨some 46,_,_,_,_,_⟩) (v:=undef) rfl (by kernel_rfl) (fun _ _ _ h=>h) (Or.inr ⟨by rfl,rfl⟩) hHeld ?rc22
    (try simp only [Act.put,sx])
    refine tk (i:=23) (oi:=⟨some 47,_,_,_,_,_⟩) (v:=undef) rfl (by kernel_rfl) (fun _ _ _ h=>h) (Or.inr ⟨by rfl,rfl⟩) hHeld ?rc23
    (try simp only [Act.put,sx])
    refine tk (i:=24) (oi:=⟨some 48,_,_,_,_,_⟩) (v:=undef) rfl (by kernel_rfl) (fun _ _ _ h=>h) (Or.inr ⟨by rfl,rfl⟩) hHeld ?rc24
    (try simp only [Act.put,sx])
    refine tqr 25 49 hHeld ?_
    (try simp only [Act.put,sx])
    refine tqr 26 50 hHeld ?_
    (try simp only [Act.put,sx])
    refine tqr 27 51 hHeld ?_
    (try simp only [Act.put,sx])
    refine tqr 28 52 hHeld ?_
    (try simp only [Act.put,sx])
    refine tqr 29 53 hHeld ?_
    (try simp only [Act.put,sx])
    refine wpAnyH_ready (rs:=[30]) (by kernel_rfl) (by simp) ?_;refine AllReadyH.cons rfl (fun K hK=>?_) AllReadyH.nil;go_simp
    go_wp2_with (go_at_call 246;refine (za7 hq _).mono ?_;rintro e w' ⟨rfl,rfl⟩)
    refine hK.out _ _ hHeld (fun hHeld=>?_);clear hK K;refine tqr 31 55 hHeld ?_
    (try simp only [Act.put,sx])
    refine tqr 32 56 hHeld ?_
    (try simp only [Act.put,sx])
    refine tk (i:=33) (oi:=⟨some 57,_,_,_,_,_⟩) (v:=undef) rfl (by kernel_rfl) (fun _ _ _ h=>h) (Or.inr ⟨by rfl,rfl⟩) hHeld ?rc33
    (try simp only [Act.put,sx])
    refine tk (i:=34) (oi:=⟨some 58,_,_,_,_,_⟩) (v:=undef) rfl (by kernel_rfl) (fun _ _ _ h=>h) (Or.inr ⟨by rfl,rfl⟩) hHeld ?rc34
    (try simp only [Act.put,sx])
    refine tk (i:=35) (oi:=⟨some 59,_,_,_,_,_⟩) (v:=undef) rfl (by kernel_rfl) (fun _ _ _ h=>h) (Or.inr ⟨by rfl,rfl⟩) hHeld ?rc35
    (try simp only [Act.put,sx])
    refine tk (i:=36) (oi:=⟨some 60,_,_,_,_,_⟩) (v:=undef) rfl (by kernel_rfl) (fun _ _ _ h=>h) (Or.inr ⟨by rfl,rfl⟩) hHeld ?rc36
    (try simp only [Act.put,sx])
    refine tk (i:=37) (oi:=⟨some 61,_,_,_,_,_⟩) (v:=undef) rfl (by kernel_rfl) (fun _ _ _ h=>h) (Or.inr ⟨by rfl,rfl⟩) hHeld ?rc37
    (try simp only [Act.put,sx])
    refine tk (i:=38) (oi:=⟨some 62,_,_,_,_,_⟩) (v:=undef) rfl (by kernel_rfl) (fun _ _ _ h=>h) (Or.inr ⟨by rfl,rfl⟩) hHeld ?rc38
    (try simp only [Act.put,sx])
    refine tk (i:=39) (oi:=⟨some 63,_,_,_,_,_⟩) (v:=undef) rfl (by kernel_rfl) (fun _ _ _ h=>h) (Or.inr ⟨by rfl,rfl⟩) hHeld ?rc39
    (try simp only [Act.put,sx])
    refine tqr 40 64 hHeld ?_
    (try simp only [Act.put,sx])
    refine tqr 41 65 hHeld ?_
    (try simp only [Act.put,sx])
    refine tqr 42 66 hHeld ?_
    (try simp only [Act.put,sx])
    refine tqr 43 67 hHeld ?_
    (try simp only [Act.put,sx])
    refine tqr 44 68 hHeld ?_
    (try simp only [Act.put,sx])
    refine tqr 45 69 hHeld ?_
    (try simp only [Act.put,sx])
    refine tqr 46 70 hHeld ?_
    (try simp only [Act.put,sx])
    refine tqr 47 71 hHeld ?_
    (try simp only [Act.put,sx])
    refine tqr 48 72 hHeld ?_
    (try simp only [Act.put,sx])
    refine tqr 49 73 hHeld ?_
    (try simp only [Act.put,sx])
    refine tqr 50 74 hHeld ?_
    (try simp only [Act.put,sx])
    refine tqr 51 75 hHeld ?_
    (try simp only [Act.put,sx])
    refine tqr 52 76 hHeld ?_
    (try simp only [Act.put,sx])
    refine tqr 53 77 hHeld ?_
    (try simp only [Act.put,sx])
    refine tqr 54 78 hHeld ?_
    (try simp only [Act.put,sx])
    refine tqr 55 79 hHeld ?_
    (try simp only [Act.put,sx])
    refine tqr 56 80 hHeld ?_
    (try simp only [Act.put,sx])
    refine tqr 57 81 hHeld ?_
    (try simp only [Act.put,sx])
    refine tqr 58 82 hHeld ?_
    (try simp only [Act.put,sx])
    refine tk (i:=59) (oi:=⟨some 83,_,_,_,_,_⟩) (v:=undef) rfl (by kernel_rfl) (fun _ _ _ h=>h) (Or.inr ⟨by rfl,rfl⟩) hHeld ?rc59
    (try simp only [Act.put,sx])
    refine tk (i:=60) (oi:=⟨some 84,_,_,_,_,_⟩) (v:=undef) rfl (by kernel_rfl) (fun _ _ _ h=>h) (Or.inr ⟨by rfl,rfl⟩) hHeld ?rc60
    (try simp only [Act.put,sx])
    refine tk (i:=61) (oi:=⟨some 85,_,_,_,_,_⟩) (v:=undef) rfl (by kernel_rfl) (fun _ _ _ h=>h) (Or.inr ⟨by rfl,rfl⟩) hHeld ?rc61
    (try simp only [Act.put,sx])
    refine tk (i:=62) (oi:=⟨some 86,_,_,_,_,_⟩) (v:=undef) rfl (by kernel_rfl) (fun _ _ _ h=>h) (Or.inr ⟨by rfl,rfl⟩) hHeld ?rc62
    (try simp only [Act.put,sx])
    refine tk (i:=63) (oi:=⟨some 87,_,_,_,_,_⟩) (v:=undef) rfl (by kernel_rfl) (fun _ _ _ h=>h) (Or.inr ⟨by rfl,rfl⟩) hHeld ?rc63
    (try simp only [Act.put,sx])
    refine tk (i:=64) (oi:=⟨some 88,_,_,_,_,_⟩) (v:=undef) rfl (by kernel_rfl) (fun _ _ _ h=>h) (Or.inr ⟨by rfl,rfl⟩) hHeld ?rc64
    (try simp only [Act.put,sx])
    refine tk (i:=65) (oi:=⟨some 89,_,_,_,_,_⟩) (v:=undef) rfl (by kernel_rfl) (fun _ _ _ h=>h) (Or.inr ⟨by rfl,rfl⟩) hHeld ?rc65
    (try simp only [Act.put,sx])
    refine tk (i:=66) (oi:=⟨some 90,_,_,_,_,_⟩) (v:=undef) rfl (by kernel_rfl) (fun _ _ _ h=>h) (Or.inr ⟨by rfl,rfl⟩) hHeld ?rc66
    (try simp only [Act.put,sx])
    refine tk (i:=67) (oi:=⟨some 91,_,_,_,_,_⟩) (v:=undef) rfl (by kernel_rfl) (fun _ _ _ h=>h) (Or.inr ⟨by rfl,rfl⟩) hHeld ?rc67
    (try simp only [Act.put,sx])
    refine tqr 68 92 hHeld ?_
    (try simp only [Act.put,sx])
    refine wpAnyH_done (by kernel_rfl) ?_ _;go_wp2_with fail;go_meet;exact ⟨by rw [HE.out],zvs FF⟩
  | false=>
    have HE:Hid (C=decide (0<ot.length)):=by show _=_;rw [HC.out];simp [hR,hf,h0,h4,h5,hb]
    refine wp_region_held_drew (S:=(fun W=>W.cell? ⟨w.heap.size,0,none⟩=some (.int .i64 op)/\W.cell? ⟨w.heap.size,1,none⟩=some (.string mod)/\W.cell? ⟨w.heap.size,2,none⟩=some (.string name)/\W.cell? ⟨w.heap.size,3,none⟩=some (.slice aa l.length cap)/\W.cell? ⟨w.heap.size,4,none⟩=some (.slice ab bd.length cab)/\W.cell? ⟨w.heap.size,5,none⟩=some (.slice ac ot.length cac))) (by kernel_rfl) ?_ (fun hHeld=>?_)
    . (try dsimp only);go_keep
    refine tqr 0 24 hHeld ?_
    (try simp only [Act.put,sx])
    refine tqr 1 25 hHeld ?_
    (try simp only [Act.put,sx])
    refine wpAnyH_ready (rs:=[2]) (by kernel_rfl) (by simp) ?_;refine AllReadyH.cons rfl (fun K hK=>?_) AllReadyH.nil;go_simp
    go_wp2_with (go_at_call 163;refine (za6 hR _).mono ?_;rintro e w' ⟨rfl,rfl⟩)
    refine hK.out _ _ hHeld (fun hHeld=>?_);clear hK K;refine tqr 3 27 hHeld ?_
    (try simp only [Act.put,sx])
    refine tqr 4 28 hHeld ?_
    (try simp only [Act.put,sx])
    refine tqr 5 29 hHeld ?_
    (try simp only [Act.put,sx])
    refine tqr 6 30 hHeld ?_
    (try simp only [Act.put,sx])
    refine tqr 7 31 hHeld ?_
    (try simp only [Act.put,sx])
    refine wpAnyH_ready (rs:=[8]) (by kernel_rfl) (by simp) ?_;refine AllReadyH.cons rfl (fun K hK=>?_) AllReadyH.nil;go_simp
    go_wp2_with (go_at_call 245;refine (zby hf _ HWm.out HWn.out).mono ?_;rintro e w' ⟨rfl,hb⟩)
    have FF:=bx6 HBx HBz hb;clear hb;refine hK.out _ _ FF.out.2 (fun hHeld=>?_);clear hK K;refine tqr 9 33 hHeld ?_
    (try simp only [Act.put,sx])
    refine tqr 10 34 hHeld ?_
    (try simp only [Act.put,sx])
    refine tqr 11 35 hHeld ?_
    (try simp only [Act.put,sx])
    refine tqr 12 36 hHeld ?_
    (try simp only [Act.put,sx])
    refine tqr 13 37 hHeld ?_
    (try simp only [Act.put,sx])
    refine wpAnyH_ready (rs:=[14]) (by kernel_rfl) (by simp) ?_;refine AllReadyH.cons rfl (fun K hK=>?_) AllReadyH.nil;go_simp
    go_wp2_with (go_at_call 163;refine (za6 hR _).mono ?_;rintro e w' ⟨rfl,rfl⟩)
    refine hK.out _ _ hHeld (fun hHeld=>?_);clear hK K;refine tqr 15 39 hHeld ?_
    (try simp only [Act.put,sx])
    refine tqr 16 40 hHeld ?_
    (try simp only [Act.put,sx])
    refine tk (i:=17) (oi:=⟨some 41,_,_,_,_,_⟩) (v:=undef) rfl (by kernel_rfl) (fun _ _ _ h=>h) (Or.inr ⟨by rfl,rfl⟩) hHeld ?rd17
    (try simp only [Act.put,sx])
    refine tk (i:=18) (oi:=⟨some 42,_,_,_,_,_⟩) (v:=undef) rfl (by kernel_rfl) (fun _ _ _ h=>h) (Or.inr ⟨by rfl,rfl⟩) hHeld ?rd18
    (try simp only [Act.put,sx])
    refine tk (i:=19) (oi:=⟨some 43,_,_,_,_,_⟩) (v:=undef) rfl (by kernel_rfl) (fun _ _ _ h=>h) (Or.inr ⟨by rfl,rfl⟩) hHeld ?rd19
    (try simp only [Act.put,sx])
    refine tk (i:=20) (oi:=⟨some 44,_,_,_,_,_⟩) (v:=undef) rfl (by kernel_rfl) (fun _ _ _ h=>h) (Or.inr ⟨by rfl,rfl⟩) hHeld ?rd20
    (try simp only [Act.put,sx])
    refine tk (i:=21) (oi:=⟨some 45,_,_,_,_,_⟩) (v:=undef) rfl (by kernel_rfl) (fun _ _ _ h=>h) (Or.inr ⟨by rfl,rfl⟩) hHeld ?rd21
    (try simp only [Act.put,sx])
    refine tk (i:=22) (oi:=⟨some 46,_,_,_,_,_⟩) (v:=undef) rfl (by kernel_rfl) (fun _ _ _ h=>h) (Or.inr ⟨by rfl,rfl⟩) hHeld ?rd22
    (try simp only [Act.put,sx])
    refine tk (i:=23) (oi:=⟨some 47,_,_,_,_,_⟩) (v:=undef) rfl (by kernel_rfl) (fun _ _ _ h=>h) (Or.inr ⟨by rfl,rfl⟩) hHeld ?rd23
    (try simp only [Act.put,sx])
    refine tk (i:=24) (oi:=⟨some 48,_,_,_,_,_⟩) (v:=undef) rfl (by kernel_rfl) (fun _ _ _ h=>h) (Or.inr ⟨by rfl,rfl⟩) hHeld ?rd24
    (try simp only [Act.put,sx])
    refine tqr 25 49 hHeld ?_
    (try simp only [Act.put,sx])
    refine tqr 26 50 hHeld ?_
    (try simp only [Act.put,sx])
    refine tqr 27 51 hHeld ?_
    (try simp only [Act.put,sx])
    refine tqr 28 52 hHeld ?_
    (try simp only [Act.put,sx])
    refine tqr 29 53 hHeld ?_
    (try simp only [Act.put,sx])
    refine wpAnyH_ready (rs:=[30]) (by kernel_rfl) (by simp) ?_;refine AllReadyH.cons rfl (fun K hK=>?_) AllReadyH.nil;go_simp
    go_wp2_with (go_at_call 246;refine (za7 hq _).mono ?_;rintro e w' ⟨rfl,rfl⟩)
    refine hK.out _ _ hHeld (fun hHeld=>?_);clear hK K;refine tqr 31 55 hHeld ?_
    (try simp only [Act.put,sx])
    refine tqr 32 56 hHeld ?_
    (try simp only [Act.put,sx])
    refine tk (i:=33) (oi:=⟨some 57,_,_,_,_,_⟩) (v:=undef) rfl (by kernel_rfl) (fun _ _ _ h=>h) (Or.inr ⟨by rfl,rfl⟩) hHeld ?rd33
    (try simp only [Act.put,sx])
    refine tk (i:=34) (oi:=⟨some 58,_,_,_,_,_⟩) (v:=undef) rfl (by kernel_rfl) (fun _ _ _ h=>h) (Or.inr ⟨by rfl,rfl⟩) hHeld ?rd34
    (try simp only [Act.put,sx])
    refine tk (i:=35) (oi:=⟨some 59,_,_,_,_,_⟩) (v:=undef) rfl (by kernel_rfl) (fun _ _ _ h=>h) (Or.inr ⟨by rfl,rfl⟩) hHeld ?rd35
    (try simp only [Act.put,sx])
    refine tk (i:=36) (oi:=⟨some 60,_,_,_,_,_⟩) (v:=undef) rfl (by kernel_rfl) (fun _ _ _ h=>h) (Or.inr ⟨by rfl,rfl⟩) hHeld ?rd36
    (try simp only [Act.put,sx])
    refine tk (i:=37) (oi:=⟨some 61,_,_,_,_,_⟩) (v:=undef) rfl (by kernel_rfl) (fun _ _ _ h=>h) (Or.inr ⟨by rfl,rfl⟩) hHeld ?rd37
    (try simp only [Act.put,sx])
    refine tk (i:=38) (oi:=⟨some 62,_,_,_,_,_⟩) (v:=undef) rfl (by kernel_rfl) (fun _ _ _ h=>h) (Or.inr ⟨by rfl,rfl⟩) hHeld ?rd38
    (try simp only [Act.put,sx])
    refine tk (i:=39) (oi:=⟨some 63,_,_,_,_,_⟩) (v:=undef) rfl (by kernel_rfl) (fun _ _ _ h=>h) (Or.inr ⟨by rfl,rfl⟩) hHeld ?rd39
    (try simp only [Act.put,sx])
    refine tqr 40 64 hHeld ?_
    (try simp only [Act.put,sx])
    refine tqr 41 65 hHeld ?_
    (try simp only [Act.put,sx])
    refine tqr 42 66 hHeld ?_
    (try simp only [Act.put,sx])
    refine tqr 43 67 hHeld ?_
    (try simp only [Act.put,sx])
    refine tqr 44 68 hHeld ?_
    (try simp only [Act.put,sx])
    refine tqr 45 69 hHeld ?_
    (try simp only [Act.put,sx])
    refine tqr 46 70 hHeld ?_
    (try simp only [Act.put,sx])
    refine tqr 47 71 hHeld ?_
    (try simp only [Act.put,sx])
    refine tqr 48 72 hHeld ?_
    (try simp only [Act.put,sx])
    refine tqr 49 73 hHeld ?_
    (try simp only [Act.put,sx])
    refine tqr 50 74 hHeld ?_
    (try simp only [Act.put,sx])
    refine tqr 51 75 hHeld ?_
    (try simp only [Act.put,sx])
    refine tqr 52 76 hHeld ?_
    (try simp only [Act.put,sx])
    refine tqr 53 77 hHeld ?_
    (try simp only [Act.put,sx])
    refine tqr 54 78 hHeld ?_
    (try simp only [Act.put,sx])
    refine tqr 55 79 hHeld ?_
    (try simp only [Act.put,sx])
    refine tqr 56 80 hHeld ?_
    (try simp only [Act.put,sx])
    refine tqr 57 81 hHeld ?_
    (try simp only [Act.put,sx])
    refine tqr 58 82 hHeld ?_
    (try simp only [Act.put,sx])
    refine tqr 59 83 hHeld ?_
    (try simp only [Act.put,sx])
    refine tqr 60 84 hHeld ?_
    (try simp only [Act.put,sx])
    refine tqr 61 85 hHeld ?_
    (try simp only [Act.put,sx])
    refine tqr 62 86 hHeld ?_
    (try simp only [Act.put,sx])
    refine tqr 63 87 hHeld ?_
    (try simp only [Act.put,sx])
    refine tqr 64 88 hHeld ?_
    (try simp only [Act.put,sx])
    refine tqr 65 89 hHeld ?_
    (try simp only [Act.put,sx])
    refine tqr 66 90 hHeld ?_
    (try simp only [Act.put,sx])
    refine tqr 67 91 hHeld ?_
    (try simp only [Act.put,sx])
    refine tqr 68 92 hHeld ?_
    (try simp only [Act.put,sx])
    refine wpAnyH_done (by kernel_rfl) ?_ _;go_wp2_with fail;go_meet;exact ⟨by rw [HE.out],zvs FF⟩
 case rest =>
  obtain ⟨rfl,HBc⟩:=hcut;have HB0':Hid (Below w.heap.size w wc):=thenB HB0.out HBc.out;have HBx':Hid (Blk wc w.heap.size [.int .i64 op,.string mod,.string name,.slice aa l.length cap,.slice ab bd.length cab,.slice ac ot.length cac]):=HBx.out.later HBc.out;clear HB0 HBx HBc HC;have HB0:=HB0';have HBx:=HBx';clear HB0' HBx';obtain ⟨x0,x1,x2,x3,x4,x5,xz⟩:=HBx.out.c6;clear x0 x1 x2 x4 x5
  cases hCb:C with
  | true=>
    subst hCb;go_wp2_with fail;go_ret;exact ⟨zab (HR.out rfl),HB0.out⟩
  | false =>
    subst hCb;go_wp2_with fail
    go_loopw [7] (fun i wr=>∃ j:Nat,j<=l.length/\i = .int .i64 j/\(l.take j).any (eL 3 6)=false/\Below w.heap.size w wr/\Blk wr w.heap.size [.int .i64 op,.string mod,.string name,.slice aa l.length cap,.slice ab bd.length cab,.slice ac ot.length cac]) (fun i _=>l.length - (intOf i).toNat)
    case atStart=>exact ⟨0,vad _,rfl,rfl,HB0.out,HBx.out⟩
    case round =>
     obtain ⟨j,hj,rfl,hall,hb,hB⟩:=hrel;clear HBx HB0;clear x3 xz;obtain ⟨q0,q1,q2,q3,q4,q5,qz⟩:=hB.c6;clear q1 q2;have HB:Hid (Blk wr w.heap.size [.int .i64 op,.string mod,.string name,.slice aa l.length cap,.slice ab bd.length cab,.slice ac ot.length cac]):=hB;have HA:Hid ((l.take j).any (eL 3 6)=false):=hall;clear hall hB
     by_cases hlt:j<l.length
     . obtain ⟨b,off,a2,cp,rfl,hx⟩:=(HD.out.later hb).ex j hlt
       have hc0:=hx.c0;have hc1:=hx.c1;have hc2:=hx.c2;have hc3:=hx.c3;have hc4:=hx.c4;have hlb:=hx.lt;have HX:Hid (ExAt wr A b (off+j*5) l[j] a2 cp):=hx;clear hx;go_wp2_with fail;refine (zb1 A 6 (by omega) 3 (by omega) l[j] a2 cp 1 _ (by omega) HX.out.args HX.out.wm HX.out.wna).mono ?_
       cases hr:eL 3 6 l[j] with
       | true=>
         have HF:Hid (l.any (eL 3 6)=true):=zbj l _ j hlt hr;rintro e w3 ⟨rfl,hb3⟩;go_wp2_with fail;go_ret;exact ⟨zab (HR.out (by rw [HF.out];simp)),thenB hb hb3⟩
       | false=>
         have HT:Hid ((l.take (j+1)).any (eL 3 6)=false):=by
          show _=_
          rw [zat l _ j hlt,HA.out,hr];rfl
         rintro e w3 ⟨rfl,hb3⟩;go_wp2_with fail;go_roundw
         case rel=>exact ⟨j+1,by omega,by go_num,HT.out,thenB hb hb3,HB.out.later hb3⟩
         case measure=>simp [intOf];omega
     . have HT : Hid (l.any (eL 3 6)=false):=zbh HA.out hlt
       have HS:Hid (∀ {b:Bool},(((op == 4||op == 5)||decide (0<bd.length))&&bL 3 k bd||(decide (0<ot.length)&&bL 3 k ot))=b->b=sL 3 k (St.mk op mod name l bd ot)):=fun h=>HR.out (by rw [HT.out,vaz,vaz];exact h)
       clear HR HT HA HD;have HDb':Hid (DAt wr A ab bd.length (za2 bd)):=HDb.out.later hb;have HDo':Hid (DAt wr A ac ot.length (za2 ot)):=HDo.out.later hb;clear HDb HDo
       cases h4:(op == 4) with
       | true=>
         go_wp2_with fail;refine (HI.out bd ab cab _ HDb'.out).mono ?_
         cases hr1:bL 3 k bd with
         | true=>
           rintro e w4 ⟨rfl,c1⟩;go_wp2_with fail;go_ret;exact ⟨zab (HS.out (by simp [hr1,h4])),thenB hb c1⟩
         | false=>
           rintro e w4 ⟨rfl,c1⟩;clear q0 q3 q4 q5 qz;obtain ⟨q0,q1,q2,q3,q4,q5,qz⟩:=(HB.out.later c1).c6;clear q0 q1 q2 q3 q4
           by_cases ho:0<ot.length
           . go_wp2_with fail
             refine (HI.out ot ac cac _ (HDo'.out.later c1)).mono ?_
             cases hr2:bL 3 k ot with
             | true=>
               rintro e w5 ⟨rfl,c2⟩;go_wp2_with fail;go_ret;exact ⟨zab (HS.out (by simp [hr2,ho])),thenB (thenB hb c1) c2⟩
             | false=>
               rintro e w5 ⟨rfl,c2⟩;go_wp2_with fail;go_ret;exact ⟨zab (HS.out (by simp [hr2,hr1])),thenB (thenB hb c1) c2⟩
           . go_wp2_with fail
             go_ret;exact ⟨zab (HS.out (by simp [ho,hr1])),(thenB hb c1)⟩
       | false =>
         cases h5:(op == 5) with
         | true=>
           go_wp2_with fail;refine (HI.out bd ab cab _ HDb'.out).mono ?_
           cases hr1:bL 3 k bd with
           | true=>
             rintro e w4 ⟨rfl,c1⟩;go_wp2_with fail;go_ret;exact ⟨zab (HS.out (by simp [hr1,h4,h5])),thenB hb c1⟩
           | false=>
             rintro e w4 ⟨rfl,c1⟩;clear q0 q3 q4 q5 qz;obtain ⟨q0,q1,q2,q3,q4,q5,qz⟩:=(HB.out.later c1).c6;clear q0 q1 q2 q3 q4
             by_cases ho:0<ot.length
             . go_wp2_with fail
               refine (HI.out ot ac cac _ (HDo'.out.later c1)).mono ?_
               cases hr2:bL 3 k ot with
               | true=>
                 rintro e w5 ⟨rfl,c2⟩;go_wp2_with fail;go_ret;exact ⟨zab (HS.out (by simp [hr2,ho])),thenB (thenB hb c1) c2⟩
               | false=>
                 rintro e w5 ⟨rfl,c2⟩;go_wp2_with fail;go_ret;exact ⟨zab (HS.out (by simp [hr2,hr1])),thenB (thenB hb c1) c2⟩
             . go_wp2_with fail
               go_ret;exact ⟨zab (HS.out (by simp [ho,hr1])),(thenB hb c1)⟩
         | false =>
           by_cases hb0:0<bd.length
           . skip
             go_wp2_with fail;refine (HI.out bd ab cab _ HDb'.out).mono ?_
             cases hr1:bL 3 k bd with
             | true=>
               rintro e w4 ⟨rfl,c1⟩;go_wp2_with fail;go_ret;exact ⟨zab (HS.out (by simp [hr1,h4,h5,hb0])),thenB hb c1⟩
             | false=>
               rintro e w4 ⟨rfl,c1⟩;clear q0 q3 q4 q5 qz;obtain ⟨q0,q1,q2,q3,q4,q5,qz⟩:=(HB.out.later c1).c6;clear q0 q1 q2 q3 q4
               by_cases ho:0<ot.length
               . go_wp2_with fail
                 refine (HI.out ot ac cac _ (HDo'.out.later c1)).mono ?_
                 cases hr2:bL 3 k ot with
                 | true=>
                   rintro e w5 ⟨rfl,c2⟩;go_wp2_with fail;go_ret;exact ⟨zab (HS.out (by simp [hr2,ho])),thenB (thenB hb c1) c2⟩
                 | false=>
                   rintro e w5 ⟨rfl,c2⟩;go_wp2_with fail;go_ret;exact ⟨zab (HS.out (by simp [hr2,hr1])),thenB (thenB hb c1) c2⟩
               . go_wp2_with fail
                 go_ret;exact ⟨zab (HS.out (by simp [ho,hr1])),(thenB hb c1)⟩
           . skip
             by_cases ho:0<ot.length
             . go_wp2_with fail
               refine (HI.out ot ac cac _ HDo'.out).mono ?_
               cases hr2:bL 3 k ot with
               | true=>
                 rintro e w5 ⟨rfl,c2⟩;go_wp2_with fail;go_ret;exact ⟨zab (HS.out (by simp [hr2,ho])),thenB hb c2⟩
               | false=>
                 rintro e w5 ⟨rfl,c2⟩;go_wp2_with fail;go_ret;exact ⟨zab (HS.out (by simp [hr2,h4,h5,hb0])),thenB hb c2⟩
             . go_wp2_with fail
               go_ret;exact ⟨zab (HS.out (by simp [ho,h4,h5,hb0])),hb⟩
end Go.Proofs.YtndkhgakfodldaaGreatDoor
