/-
  stmtLook, level 3: a call.
-/
import Derived.Test.YtndkhgakfodldaaGreatDoorRc
namespace Go.Proofs.YtndkhgakfodldaaGreatDoor
set_option maxRecDepth 100000
set_option maxHeartbeats 8000000
open Go.RowKit Go.Maps
theorem stmtStep3d (A:Nat->Prop) (k:Nat) (op:Int) (mod name:ByteArray) (l:List Ex) (bd ot:List St) (aa ab ac:Option Addr) (cap cab cac:Nat) (deep:Int) (w:World) (hbd:l.length<=17592186044416) (hd1:1<=deep) (hd6:deep<=6)
 (HI:Hid (∀ (l:List St) (a:Option Addr) (cap:Nat) (w:World),DAt w A a l.length (stsD l)->Calls Tryz.prog 156 #[.slice a l.length cap,.int .i64 3,.int .i64 (deep+1)] w fun e w'=>e = .returned (.bool (bL 3 k l))/\Below w.heap.size w w'))
 (HD:Hid (DAt w A aa l.length (exsD l))) (HDb:Hid (DAt w A ab bd.length (stsD bd))) (HDo:Hid (DAt w A ac ot.length (stsD ot))) (HWm:Hid (mod.size<=maxLen)) (HWn:Hid (name.size<=maxLen))
 (hR:inB op 1 3=true) (hf:fineB mod name=true) (h0:decide (0<=stN op)=false) :
 Calls Tryz.prog 191 #[.agg #[.int .i64 op,.string mod,.string name,.slice aa l.length cap,.slice ab bd.length cab,.slice ac ot.length cac],.int .i64 3,.int .i64 deep] w fun e w'=>e = .returned (.bool (sL 3 k (St.mk op mod name l bd ot)))/\Below w.heap.size w w':=by
 have HR:Hid (∀ {b:Bool},(sBad 3 (St.mk op mod name l bd ot)||(l.any (eL 3 6)||(((op == 4||op == 5)||decide (0<bd.length))&&bL 3 k bd||(decide (0<ot.length)&&bL 3 k ot))))=b->b=sL 3 k (St.mk op mod name l bd ot)):=fun h=>by rw [← h];rfl
 have HBx:Hid (Blk (w.alloc (.cells #[.int .i64 op,.string mod,.string name,.slice aa l.length cap,.slice ab bd.length cab,.slice ac ot.length cac] 176)) w.heap.size [.int .i64 op,.string mod,.string name,.slice aa l.length cap,.slice ab bd.length cab,.slice ac ot.length cac]):=Blk.new w _ _;have HB0:Hid (Below w.heap.size w (w.alloc (.cells #[.int .i64 op,.string mod,.string name,.slice aa l.length cap,.slice ab bd.length cab,.slice ac ot.length cac] 176))):=al1 _ _;have HC:Hid (sBad 3 (St.mk op mod name l bd ot)=((inB op 1 3 && !fineB mod name)||(!inB op 1 3&&(!mod.toList.isEmpty || !name.toList.isEmpty))||(decide (0<=stN op)&&((l.length:Int) != stN op))||(op != 4&&op != 5&&decide (0<bd.length))||(op != 4&&decide (0<ot.length)))):=rfl;generalize hCC:sBad 3 (St.mk op mod name l bd ot)=C at HC HR;clear hCC;go_enter Tryz.func191,Tryz.ntmps191
 go_upto_region 9 with fail;generalize hW0:w.alloc (.cells #[.int .i64 op,.string mod,.string name,.slice aa l.length cap,.slice ab bd.length cab,.slice ac ot.length cac] 176)=W0 at *;clear hW0
 go_cut [92] (fun v wc=>v = .bool C/\Hid (Below W0.heap.size W0 wc))
 case first=>
  clear HD HDb HDo HI HR HB0;obtain ⟨x0,x1,x2,x3,x4,x5,xz⟩:=HBx.out.c6;have HBz:Hid (Below W0.heap.size W0 W0.drew):=(Below.refl _ _).drew;generalize hq:stN op=q at *;simp only [List.append_eq,List.cons_append,List.nil_append];have h4:(op != 4)=true:=bne_iff_ne.2 (by simp [inB] at hR;omega);have h5:(op != 5)=true:=bne_iff_ne.2 (by simp [inB] at hR;omega)
  cases hb:decide (0<bd.length) with
  | true=>
    have HE:Hid (C=true):=by show _=_;rw [HC.out];simp [hR,hf,h0,h4,h5,hb]
    refine wp_region_held_drew (S:=(fun W=>W.cell? ⟨w.heap.size,0,none⟩=some (.int .i64 op)/\W.cell? ⟨w.heap.size,1,none⟩=some (.string mod)/\W.cell? ⟨w.heap.size,2,none⟩=some (.string name)/\W.cell? ⟨w.heap.size,3,none⟩=some (.slice aa l.length cap)/\W.cell? ⟨w.heap.size,4,none⟩=some (.slice ab bd.length cab)/\W.cell? ⟨w.heap.size,5,none⟩=some (.slice ac ot.length cac))) (by kernel_rfl) ?_ (fun hHeld=>?_)
    . (try dsimp only);go_keep
    refine tk (i:=0) (oi:=⟨some 24,_,_,_,_,_⟩) (v:=?vc0) rfl (by kernel_rfl) (fun _ _ _ h=>h) (Or.inl ⟨by rfl,?hc0⟩) hHeld ?rc0
    case hc0=>(intro w hSw;(try dsimp only at hSw);go_simp;(try with_reducible rfl))
    (try simp only [Act.put,sx])
    refine tk (i:=1) (oi:=⟨some 25,_,_,_,_,_⟩) (v:=?vc1) rfl (by kernel_rfl) (fun _ _ _ h=>h) (Or.inl ⟨by rfl,?hc1⟩) hHeld ?rc1
    case hc1=>(intro w hSw;(try dsimp only at hSw);go_simp;(try with_reducible rfl))
    (try simp only [Act.put,sx])
    refine wpAnyH_ready (rs:=[2]) (by kernel_rfl) (by simp) ?_;refine AllReadyH.cons rfl (fun K hK=>?_) AllReadyH.nil;go_simp
    go_wp2_with (go_at_call 163;refine (stmtRef_at hR _).mono ?_;rintro e w' ⟨rfl,rfl⟩)
    refine hK.out _ _ hHeld (fun hHeld=>?_);clear hK K;refine tk (i:=3) (oi:=⟨some 27,_,_,_,_,_⟩) (v:=?vc3) rfl (by kernel_rfl) (fun _ _ _ h=>h) (Or.inl ⟨by rfl,?hc3⟩) hHeld ?rc3
    case hc3=>(intro w hSw;(try dsimp only at hSw);go_simp;(try with_reducible rfl))
    (try simp only [Act.put,sx])
    refine tk (i:=4) (oi:=⟨some 28,_,_,_,_,_⟩) (v:=?vc4) rfl (by kernel_rfl) (fun _ _ _ h=>h) (Or.inl ⟨by rfl,?hc4⟩) hHeld ?rc4
    case hc4=>(intro w hSw;(try dsimp only at hSw);go_simp;(try with_reducible rfl))
    (try simp only [Act.put,sx])
    refine tk (i:=5) (oi:=⟨some 29,_,_,_,_,_⟩) (v:=?vc5) rfl (by kernel_rfl) (fun _ _ _ h=>h) (Or.inl ⟨by rfl,?hc5⟩) hHeld ?rc5
    case hc5=>(intro w hSw;(try dsimp only at hSw);go_simp;(try with_reducible rfl))
    (try simp only [Act.put,sx])
    refine tk (i:=6) (oi:=⟨some 30,_,_,_,_,_⟩) (v:=?vc6) rfl (by kernel_rfl) (fun _ _ _ h=>h) (Or.inl ⟨by rfl,?hc6⟩) hHeld ?rc6
    case hc6=>(intro w hSw;(try dsimp only at hSw);go_simp;(try with_reducible rfl))
    (try simp only [Act.put,sx])
    refine tk (i:=7) (oi:=⟨some 31,_,_,_,_,_⟩) (v:=?vc7) rfl (by kernel_rfl) (fun _ _ _ h=>h) (Or.inl ⟨by rfl,?hc7⟩) hHeld ?rc7
    case hc7=>(intro w hSw;(try dsimp only at hSw);go_simp;(try with_reducible rfl))
    (try simp only [Act.put,sx])
    refine wpAnyH_ready (rs:=[8]) (by kernel_rfl) (by simp) ?_;refine AllReadyH.cons rfl (fun K hK=>?_) AllReadyH.nil;go_simp
    go_wp2_with (go_at_call 245;refine (refFine_at hf _ HWm.out HWn.out).mono ?_;rintro e w' ⟨rfl,hb⟩)
    have FF:=bx6 HBx HBz hb;clear hb;refine hK.out _ _ FF.out.2 (fun hHeld=>?_);clear hK K;refine tk (i:=9) (oi:=⟨some 33,_,_,_,_,_⟩) (v:=?vc9) rfl (by kernel_rfl) (fun _ _ _ h=>h) (Or.inl ⟨by rfl,?hc9⟩) hHeld ?rc9
    case hc9=>(intro w hSw;(try dsimp only at hSw);go_simp;(try with_reducible rfl))
    (try simp only [Act.put,sx])
    refine tk (i:=10) (oi:=⟨some 34,_,_,_,_,_⟩) (v:=?vc10) rfl (by kernel_rfl) (fun _ _ _ h=>h) (Or.inl ⟨by rfl,?hc10⟩) hHeld ?rc10
    case hc10=>(intro w hSw;(try dsimp only at hSw);go_simp;(try with_reducible rfl))
    (try simp only [Act.put,sx])
    refine tk (i:=11) (oi:=⟨some 35,_,_,_,_,_⟩) (v:=?vc11) rfl (by kernel_rfl) (fun _ _ _ h=>h) (Or.inl ⟨by rfl,?hc11⟩) hHeld ?rc11
    case hc11=>(intro w hSw;(try dsimp only at hSw);go_simp;(try with_reducible rfl))
    (try simp only [Act.put,sx])
    refine tk (i:=12) (oi:=⟨some 36,_,_,_,_,_⟩) (v:=?vc12) rfl (by kernel_rfl) (fun _ _ _ h=>h) (Or.inl ⟨by rfl,?hc12⟩) hHeld ?rc12
    case hc12=>(intro w hSw;(try dsimp only at hSw);go_simp;(try with_reducible rfl))
    (try simp only [Act.put,sx])
    refine tk (i:=13) (oi:=⟨some 37,_,_,_,_,_⟩) (v:=?vc13) rfl (by kernel_rfl) (fun _ _ _ h=>h) (Or.inl ⟨by rfl,?hc13⟩) hHeld ?rc13
    case hc13=>(intro w hSw;(try dsimp only at hSw);go_simp;(try with_reducible rfl))
    (try simp only [Act.put,sx])
    refine wpAnyH_ready (rs:=[14]) (by kernel_rfl) (by simp) ?_;refine AllReadyH.cons rfl (fun K hK=>?_) AllReadyH.nil;go_simp
    go_wp2_with (go_at_call 163;refine (stmtRef_at hR _).mono ?_;rintro e w' ⟨rfl,rfl⟩)
    refine hK.out _ _ hHeld (fun hHeld=>?_);clear hK K;refine tk (i:=15) (oi:=⟨some 39,_,_,_,_,_⟩) (v:=?vc15) rfl (by kernel_rfl) (fun _ _ _ h=>h) (Or.inl ⟨by rfl,?hc15⟩) hHeld ?rc15
    case hc15=>(intro w hSw;(try dsimp only at hSw);go_simp;(try with_reducible rfl))
    (try simp only [Act.put,sx])
    refine tk (i:=16) (oi:=⟨some 40,_,_,_,_,_⟩) (v:=?vc16) rfl (by kernel_rfl) (fun _ _ _ h=>h) (Or.inl ⟨by rfl,?hc16⟩) hHeld ?rc16
    case hc16=>(intro w hSw;(try dsimp only at hSw);go_simp;(try with_reducible rfl))
    (try simp only [Act.put,sx])
    refine tk (i:=17) (oi:=⟨some 41,_,_,_,_,_⟩) (v:=undef) rfl (by kernel_rfl) (fun _ _ _ h=>h) (Or.inr ⟨by rfl,rfl⟩) hHeld ?rc17
    (try simp only [Act.put,sx])
    refine tk (i:=18) (oi:=⟨some 42,_,_,_,_,_⟩) (v:=undef) rfl (by kernel_rfl) (fun _ _ _ h=>h) (Or.inr ⟨by rfl,rfl⟩) hHeld ?rc18
    (try simp only [Act.put,sx])
    refine tk (i:=19) (oi:=⟨some 43,_,_,_,_,_⟩) (v:=undef) rfl (by kernel_rfl) (fun _ _ _ h=>h) (Or.inr ⟨by rfl,rfl⟩) hHeld ?rc19
    (try simp only [Act.put,sx])
    refine tk (i:=20) (oi:=⟨some 44,_,_,_,_,_⟩) (v:=undef) rfl (by kernel_rfl) (fun _ _ _ h=>h) (Or.inr ⟨by rfl,rfl⟩) hHeld ?rc20
    (try simp only [Act.put,sx])
    refine tk (i:=21) (oi:=⟨some 45,_,_,_,_,_⟩) (v:=undef) rfl (by kernel_rfl) (fun _ _ _ h=>h) (Or.inr ⟨by rfl,rfl⟩) hHeld ?rc21
    (try simp only [Act.put,sx])
    refine tk (i:=22) (oi:=⟨some 46,_,_,_,_,_⟩) (v:=undef) rfl (by kernel_rfl) (fun _ _ _ h=>h) (Or.inr ⟨by rfl,rfl⟩) hHeld ?rc22
    (try simp only [Act.put,sx])
    refine tk (i:=23) (oi:=⟨some 47,_,_,_,_,_⟩) (v:=undef) rfl (by kernel_rfl) (fun _ _ _ h=>h) (Or.inr ⟨by rfl,rfl⟩) hHeld ?rc23
    (try simp only [Act.put,sx])
    refine tk (i:=24) (oi:=⟨some 48,_,_,_,_,_⟩) (v:=undef) rfl (by kernel_rfl) (fun _ _ _ h=>h) (Or.inr ⟨by rfl,rfl⟩) hHeld ?rc24
    (try simp only [Act.put,sx])
    refine tk (i:=25) (oi:=⟨some 49,_,_,_,_,_⟩) (v:=?vc25) rfl (by kernel_rfl) (fun _ _ _ h=>h) (Or.inl ⟨by rfl,?hc25⟩) hHeld ?rc25
    case hc25=>(intro w hSw;(try dsimp only at hSw);go_simp;(try with_reducible rfl))
    (try simp only [Act.put,sx])
    refine tk (i:=26) (oi:=⟨some 50,_,_,_,_,_⟩) (v:=?vc26) rfl (by kernel_rfl) (fun _ _ _ h=>h) (Or.inl ⟨by rfl,?hc26⟩) hHeld ?rc26
    case hc26=>(intro w hSw;(try dsimp only at hSw);go_simp;(try with_reducible rfl))
    (try simp only [Act.put,sx])
    refine tk (i:=27) (oi:=⟨some 51,_,_,_,_,_⟩) (v:=?vc27) rfl (by kernel_rfl) (fun _ _ _ h=>h) (Or.inl ⟨by rfl,?hc27⟩) hHeld ?rc27
    case hc27=>(intro w hSw;(try dsimp only at hSw);go_simp;(try with_reducible rfl))
    (try simp only [Act.put,sx])
    refine tk (i:=28) (oi:=⟨some 52,_,_,_,_,_⟩) (v:=?vc28) rfl (by kernel_rfl) (fun _ _ _ h=>h) (Or.inl ⟨by rfl,?hc28⟩) hHeld ?rc28
    case hc28=>(intro w hSw;(try dsimp only at hSw);go_simp;(try with_reducible rfl))
    (try simp only [Act.put,sx])
    refine tk (i:=29) (oi:=⟨some 53,_,_,_,_,_⟩) (v:=?vc29) rfl (by kernel_rfl) (fun _ _ _ h=>h) (Or.inl ⟨by rfl,?hc29⟩) hHeld ?rc29
    case hc29=>(intro w hSw;(try dsimp only at hSw);go_simp;(try with_reducible rfl))
    (try simp only [Act.put,sx])
    refine wpAnyH_ready (rs:=[30]) (by kernel_rfl) (by simp) ?_;refine AllReadyH.cons rfl (fun K hK=>?_) AllReadyH.nil;go_simp
    go_wp2_with (go_at_call 246;refine (stmtArgs_at hq _).mono ?_;rintro e w' ⟨rfl,rfl⟩)
    refine hK.out _ _ hHeld (fun hHeld=>?_);clear hK K;refine tk (i:=31) (oi:=⟨some 55,_,_,_,_,_⟩) (v:=?vc31) rfl (by kernel_rfl) (fun _ _ _ h=>h) (Or.inl ⟨by rfl,?hc31⟩) hHeld ?rc31
    case hc31=>(intro w hSw;(try dsimp only at hSw);go_simp;(try with_reducible rfl))
    (try simp only [Act.put,sx])
    refine tk (i:=32) (oi:=⟨some 56,_,_,_,_,_⟩) (v:=?vc32) rfl (by kernel_rfl) (fun _ _ _ h=>h) (Or.inl ⟨by rfl,?hc32⟩) hHeld ?rc32
    case hc32=>(intro w hSw;(try dsimp only at hSw);go_simp;(try with_reducible rfl))
    (try simp only [Act.put,sx])
    refine tk (i:=33) (oi:=⟨some 57,_,_,_,_,_⟩) (v:=undef) rfl (by kernel_rfl) (fun _ _ _ h=>h) (Or.inr ⟨by rfl,rfl⟩) hHeld ?rc33
    (try simp only [Act.put,sx])
    refine tk (i:=34) (oi:=⟨some 58,_,_,_,_,_⟩) (v:=undef) rfl (by kernel_rfl) (fun _ _ _ h=>h) (Or.inr ⟨by rfl,rfl⟩) hHeld ?rc34
    (try simp only [Act.put,sx])
    refine tk (i:=35) (oi:=⟨some 59,_,_,_,_,_⟩) (v:=undef) rfl (by kernel_rfl) (fun _ _ _ h=>h) (Or.inr ⟨by rfl,rfl⟩) hHeld ?rc35
    (try simp only [Act.put,sx])
    refine tk (i:=36) (oi:=⟨some 60,_,_,_,_,_⟩) (v:=undef) rfl (by kernel_rfl) (fun _ _ _ h=>h) (Or.inr ⟨by rfl,rfl⟩) hHeld ?rc36
    (try simp only [Act.put,sx])
    refine tk (i:=37) (oi:=⟨some 61,_,_,_,_,_⟩) (v:=undef) rfl (by kernel_rfl) (fun _ _ _ h=>h) (Or.inr ⟨by rfl,rfl⟩) hHeld ?rc37
    (try simp only [Act.put,sx])
    refine tk (i:=38) (oi:=⟨some 62,_,_,_,_,_⟩) (v:=undef) rfl (by kernel_rfl) (fun _ _ _ h=>h) (Or.inr ⟨by rfl,rfl⟩) hHeld ?rc38
    (try simp only [Act.put,sx])
    refine tk (i:=39) (oi:=⟨some 63,_,_,_,_,_⟩) (v:=undef) rfl (by kernel_rfl) (fun _ _ _ h=>h) (Or.inr ⟨by rfl,rfl⟩) hHeld ?rc39
    (try simp only [Act.put,sx])
    refine tk (i:=40) (oi:=⟨some 64,_,_,_,_,_⟩) (v:=?vc40) rfl (by kernel_rfl) (fun _ _ _ h=>h) (Or.inl ⟨by rfl,?hc40⟩) hHeld ?rc40
    case hc40=>(intro w hSw;(try dsimp only at hSw);go_simp;(try with_reducible rfl))
    (try simp only [Act.put,sx])
    refine tk (i:=41) (oi:=⟨some 65,_,_,_,_,_⟩) (v:=?vc41) rfl (by kernel_rfl) (fun _ _ _ h=>h) (Or.inl ⟨by rfl,?hc41⟩) hHeld ?rc41
    case hc41=>(intro w hSw;(try dsimp only at hSw);go_simp;(try with_reducible rfl))
    (try simp only [Act.put,sx])
    refine tk (i:=42) (oi:=⟨some 66,_,_,_,_,_⟩) (v:=?vc42) rfl (by kernel_rfl) (fun _ _ _ h=>h) (Or.inl ⟨by rfl,?hc42⟩) hHeld ?rc42
    case hc42=>(intro w hSw;(try dsimp only at hSw);go_simp;(try with_reducible rfl))
    (try simp only [Act.put,sx])
    refine tk (i:=43) (oi:=⟨some 67,_,_,_,_,_⟩) (v:=?vc43) rfl (by kernel_rfl) (fun _ _ _ h=>h) (Or.inl ⟨by rfl,?hc43⟩) hHeld ?rc43
    case hc43=>(intro w hSw;(try dsimp only at hSw);go_simp;(try with_reducible rfl))
    (try simp only [Act.put,sx])
    refine tk (i:=44) (oi:=⟨some 68,_,_,_,_,_⟩) (v:=?vc44) rfl (by kernel_rfl) (fun _ _ _ h=>h) (Or.inl ⟨by rfl,?hc44⟩) hHeld ?rc44
    case hc44=>(intro w hSw;(try dsimp only at hSw);go_simp;(try with_reducible rfl))
    (try simp only [Act.put,sx])
    refine tk (i:=45) (oi:=⟨some 69,_,_,_,_,_⟩) (v:=?vc45) rfl (by kernel_rfl) (fun _ _ _ h=>h) (Or.inl ⟨by rfl,?hc45⟩) hHeld ?rc45
    case hc45=>(intro w hSw;(try dsimp only at hSw);go_simp;(try with_reducible rfl))
    (try simp only [Act.put,sx])
    refine tk (i:=46) (oi:=⟨some 70,_,_,_,_,_⟩) (v:=?vc46) rfl (by kernel_rfl) (fun _ _ _ h=>h) (Or.inl ⟨by rfl,?hc46⟩) hHeld ?rc46
    case hc46=>(intro w hSw;(try dsimp only at hSw);go_simp;(try with_reducible rfl))
    (try simp only [Act.put,sx])
    refine tk (i:=47) (oi:=⟨some 71,_,_,_,_,_⟩) (v:=?vc47) rfl (by kernel_rfl) (fun _ _ _ h=>h) (Or.inl ⟨by rfl,?hc47⟩) hHeld ?rc47
    case hc47=>(intro w hSw;(try dsimp only at hSw);go_simp;(try with_reducible rfl))
    (try simp only [Act.put,sx])
    refine tk (i:=48) (oi:=⟨some 72,_,_,_,_,_⟩) (v:=?vc48) rfl (by kernel_rfl) (fun _ _ _ h=>h) (Or.inl ⟨by rfl,?hc48⟩) hHeld ?rc48
    case hc48=>(intro w hSw;(try dsimp only at hSw);go_simp;(try with_reducible rfl))
    (try simp only [Act.put,sx])
    refine tk (i:=49) (oi:=⟨some 73,_,_,_,_,_⟩) (v:=?vc49) rfl (by kernel_rfl) (fun _ _ _ h=>h) (Or.inl ⟨by rfl,?hc49⟩) hHeld ?rc49
    case hc49=>(intro w hSw;(try dsimp only at hSw);go_simp;(try with_reducible rfl))
    (try simp only [Act.put,sx])
    refine tk (i:=50) (oi:=⟨some 74,_,_,_,_,_⟩) (v:=?vc50) rfl (by kernel_rfl) (fun _ _ _ h=>h) (Or.inl ⟨by rfl,?hc50⟩) hHeld ?rc50
    case hc50=>(intro w hSw;(try dsimp only at hSw);go_simp;(try with_reducible rfl))
    (try simp only [Act.put,sx])
    refine tk (i:=51) (oi:=⟨some 75,_,_,_,_,_⟩) (v:=?vc51) rfl (by kernel_rfl) (fun _ _ _ h=>h) (Or.inl ⟨by rfl,?hc51⟩) hHeld ?rc51
    case hc51=>(intro w hSw;(try dsimp only at hSw);go_simp;(try with_reducible rfl))
    (try simp only [Act.put,sx])
    refine tk (i:=52) (oi:=⟨some 76,_,_,_,_,_⟩) (v:=?vc52) rfl (by kernel_rfl) (fun _ _ _ h=>h) (Or.inl ⟨by rfl,?hc52⟩) hHeld ?rc52
    case hc52=>(intro w hSw;(try dsimp only at hSw);go_simp;(try with_reducible rfl))
    (try simp only [Act.put,sx])
    refine tk (i:=53) (oi:=⟨some 77,_,_,_,_,_⟩) (v:=?vc53) rfl (by kernel_rfl) (fun _ _ _ h=>h) (Or.inl ⟨by rfl,?hc53⟩) hHeld ?rc53
    case hc53=>(intro w hSw;(try dsimp only at hSw);go_simp;(try with_reducible rfl))
    (try simp only [Act.put,sx])
    refine tk (i:=54) (oi:=⟨some 78,_,_,_,_,_⟩) (v:=?vc54) rfl (by kernel_rfl) (fun _ _ _ h=>h) (Or.inl ⟨by rfl,?hc54⟩) hHeld ?rc54
    case hc54=>(intro w hSw;(try dsimp only at hSw);go_simp;(try with_reducible rfl))
    (try simp only [Act.put,sx])
    refine tk (i:=55) (oi:=⟨some 79,_,_,_,_,_⟩) (v:=?vc55) rfl (by kernel_rfl) (fun _ _ _ h=>h) (Or.inl ⟨by rfl,?hc55⟩) hHeld ?rc55
    case hc55=>(intro w hSw;(try dsimp only at hSw);go_simp;(try with_reducible rfl))
    (try simp only [Act.put,sx])
    refine tk (i:=56) (oi:=⟨some 80,_,_,_,_,_⟩) (v:=?vc56) rfl (by kernel_rfl) (fun _ _ _ h=>h) (Or.inl ⟨by rfl,?hc56⟩) hHeld ?rc56
    case hc56=>(intro w hSw;(try dsimp only at hSw);go_simp;(try with_reducible rfl))
    (try simp only [Act.put,sx])
    refine tk (i:=57) (oi:=⟨some 81,_,_,_,_,_⟩) (v:=?vc57) rfl (by kernel_rfl) (fun _ _ _ h=>h) (Or.inl ⟨by rfl,?hc57⟩) hHeld ?rc57
    case hc57=>(intro w hSw;(try dsimp only at hSw);go_simp;(try with_reducible rfl))
    (try simp only [Act.put,sx])
    refine tk (i:=58) (oi:=⟨some 82,_,_,_,_,_⟩) (v:=?vc58) rfl (by kernel_rfl) (fun _ _ _ h=>h) (Or.inl ⟨by rfl,?hc58⟩) hHeld ?rc58
    case hc58=>(intro w hSw;(try dsimp only at hSw);go_simp;(try with_reducible rfl))
    (try simp only [Act.put,sx])
    refine tk (i:=59) (oi:=⟨some 83,_,_,_,_,_⟩) (v:=undef) rfl (by kernel_rfl) (fun _ _ _ h=>h) (Or.inr ⟨by rfl,rfl⟩) hHeld ?rc59
    (try simp only [Act.put,sx])
    refine tk (i:=60) (oi:=⟨some 84,_,_,_,_,_⟩) (v:=undef) rfl (by kernel_rfl) (fun _ _ _ h=>h) (Or.inr ⟨by rfl,rfl⟩) hHeld ?rc60
    (try simp only [Act.put,sx])
    refine tk (i:=61) (oi:=⟨some 85,_,_,_,_,_⟩) (v:=undef) rfl (by kernel_rfl) (fun _ _ _ h=>h) (Or.inr ⟨by rfl,rfl⟩) hHeld ?rc61
    (try simp only [Act.put,sx])
    refine tk (i:=62) (oi:=⟨some 86,_,_,_,_,_⟩) (v:=undef) rfl (by kernel_rfl) (fun _ _ _ h=>h) (Or.inr ⟨by rfl,rfl⟩) hHeld ?rc62
    (try simp only [Act.put,sx])
    refine tk (i:=63) (oi:=⟨some 87,_,_,_,_,_⟩) (v:=undef) rfl (by kernel_rfl) (fun _ _ _ h=>h) (Or.inr ⟨by rfl,rfl⟩) hHeld ?rc63
    (try simp only [Act.put,sx])
    refine tk (i:=64) (oi:=⟨some 88,_,_,_,_,_⟩) (v:=undef) rfl (by kernel_rfl) (fun _ _ _ h=>h) (Or.inr ⟨by rfl,rfl⟩) hHeld ?rc64
    (try simp only [Act.put,sx])
    refine tk (i:=65) (oi:=⟨some 89,_,_,_,_,_⟩) (v:=undef) rfl (by kernel_rfl) (fun _ _ _ h=>h) (Or.inr ⟨by rfl,rfl⟩) hHeld ?rc65
    (try simp only [Act.put,sx])
    refine tk (i:=66) (oi:=⟨some 90,_,_,_,_,_⟩) (v:=undef) rfl (by kernel_rfl) (fun _ _ _ h=>h) (Or.inr ⟨by rfl,rfl⟩) hHeld ?rc66
    (try simp only [Act.put,sx])
    refine tk (i:=67) (oi:=⟨some 91,_,_,_,_,_⟩) (v:=undef) rfl (by kernel_rfl) (fun _ _ _ h=>h) (Or.inr ⟨by rfl,rfl⟩) hHeld ?rc67
    (try simp only [Act.put,sx])
    refine tk (i:=68) (oi:=⟨some 92,_,_,_,_,_⟩) (v:=?vc68) rfl (by kernel_rfl) (fun _ _ _ h=>h) (Or.inl ⟨by rfl,?hc68⟩) hHeld ?rc68
    case hc68=>(intro w hSw;(try dsimp only at hSw);go_simp;(try with_reducible rfl))
    (try simp only [Act.put,sx])
    refine wpAnyH_done (by kernel_rfl) ?_ _;go_wp2_with fail;go_meet;exact ⟨by rw [HE.out],endB FF⟩
  | false=>
    have HE:Hid (C=decide (0<ot.length)):=by show _=_;rw [HC.out];simp [hR,hf,h0,h4,h5,hb]
    refine wp_region_held_drew (S:=(fun W=>W.cell? ⟨w.heap.size,0,none⟩=some (.int .i64 op)/\W.cell? ⟨w.heap.size,1,none⟩=some (.string mod)/\W.cell? ⟨w.heap.size,2,none⟩=some (.string name)/\W.cell? ⟨w.heap.size,3,none⟩=some (.slice aa l.length cap)/\W.cell? ⟨w.heap.size,4,none⟩=some (.slice ab bd.length cab)/\W.cell? ⟨w.heap.size,5,none⟩=some (.slice ac ot.length cac))) (by kernel_rfl) ?_ (fun hHeld=>?_)
    . (try dsimp only);go_keep
    refine tk (i:=0) (oi:=⟨some 24,_,_,_,_,_⟩) (v:=?vd0) rfl (by kernel_rfl) (fun _ _ _ h=>h) (Or.inl ⟨by rfl,?hd0⟩) hHeld ?rd0
    case hd0=>(intro w hSw;(try dsimp only at hSw);go_simp;(try with_reducible rfl))
    (try simp only [Act.put,sx])
    refine tk (i:=1) (oi:=⟨some 25,_,_,_,_,_⟩) (v:=?vd1) rfl (by kernel_rfl) (fun _ _ _ h=>h) (Or.inl ⟨by rfl,?hd1⟩) hHeld ?rd1
    case hd1=>(intro w hSw;(try dsimp only at hSw);go_simp;(try with_reducible rfl))
    (try simp only [Act.put,sx])
    refine wpAnyH_ready (rs:=[2]) (by kernel_rfl) (by simp) ?_;refine AllReadyH.cons rfl (fun K hK=>?_) AllReadyH.nil;go_simp
    go_wp2_with (go_at_call 163;refine (stmtRef_at hR _).mono ?_;rintro e w' ⟨rfl,rfl⟩)
    refine hK.out _ _ hHeld (fun hHeld=>?_);clear hK K;refine tk (i:=3) (oi:=⟨some 27,_,_,_,_,_⟩) (v:=?vd3) rfl (by kernel_rfl) (fun _ _ _ h=>h) (Or.inl ⟨by rfl,?hd3⟩) hHeld ?rd3
    case hd3=>(intro w hSw;(try dsimp only at hSw);go_simp;(try with_reducible rfl))
    (try simp only [Act.put,sx])
    refine tk (i:=4) (oi:=⟨some 28,_,_,_,_,_⟩) (v:=?vd4) rfl (by kernel_rfl) (fun _ _ _ h=>h) (Or.inl ⟨by rfl,?hd4⟩) hHeld ?rd4
    case hd4=>(intro w hSw;(try dsimp only at hSw);go_simp;(try with_reducible rfl))
    (try simp only [Act.put,sx])
    refine tk (i:=5) (oi:=⟨some 29,_,_,_,_,_⟩) (v:=?vd5) rfl (by kernel_rfl) (fun _ _ _ h=>h) (Or.inl ⟨by rfl,?hd5⟩) hHeld ?rd5
    case hd5=>(intro w hSw;(try dsimp only at hSw);go_simp;(try with_reducible rfl))
    (try simp only [Act.put,sx])
    refine tk (i:=6) (oi:=⟨some 30,_,_,_,_,_⟩) (v:=?vd6) rfl (by kernel_rfl) (fun _ _ _ h=>h) (Or.inl ⟨by rfl,?hd6⟩) hHeld ?rd6
    case hd6=>(intro w hSw;(try dsimp only at hSw);go_simp;(try with_reducible rfl))
    (try simp only [Act.put,sx])
    refine tk (i:=7) (oi:=⟨some 31,_,_,_,_,_⟩) (v:=?vd7) rfl (by kernel_rfl) (fun _ _ _ h=>h) (Or.inl ⟨by rfl,?hd7⟩) hHeld ?rd7
    case hd7=>(intro w hSw;(try dsimp only at hSw);go_simp;(try with_reducible rfl))
    (try simp only [Act.put,sx])
    refine wpAnyH_ready (rs:=[8]) (by kernel_rfl) (by simp) ?_;refine AllReadyH.cons rfl (fun K hK=>?_) AllReadyH.nil;go_simp
    go_wp2_with (go_at_call 245;refine (refFine_at hf _ HWm.out HWn.out).mono ?_;rintro e w' ⟨rfl,hb⟩)
    have FF:=bx6 HBx HBz hb;clear hb;refine hK.out _ _ FF.out.2 (fun hHeld=>?_);clear hK K;refine tk (i:=9) (oi:=⟨some 33,_,_,_,_,_⟩) (v:=?vd9) rfl (by kernel_rfl) (fun _ _ _ h=>h) (Or.inl ⟨by rfl,?hd9⟩) hHeld ?rd9
    case hd9=>(intro w hSw;(try dsimp only at hSw);go_simp;(try with_reducible rfl))
    (try simp only [Act.put,sx])
    refine tk (i:=10) (oi:=⟨some 34,_,_,_,_,_⟩) (v:=?vd10) rfl (by kernel_rfl) (fun _ _ _ h=>h) (Or.inl ⟨by rfl,?hd10⟩) hHeld ?rd10
    case hd10=>(intro w hSw;(try dsimp only at hSw);go_simp;(try with_reducible rfl))
    (try simp only [Act.put,sx])
    refine tk (i:=11) (oi:=⟨some 35,_,_,_,_,_⟩) (v:=?vd11) rfl (by kernel_rfl) (fun _ _ _ h=>h) (Or.inl ⟨by rfl,?hd11⟩) hHeld ?rd11
    case hd11=>(intro w hSw;(try dsimp only at hSw);go_simp;(try with_reducible rfl))
    (try simp only [Act.put,sx])
    refine tk (i:=12) (oi:=⟨some 36,_,_,_,_,_⟩) (v:=?vd12) rfl (by kernel_rfl) (fun _ _ _ h=>h) (Or.inl ⟨by rfl,?hd12⟩) hHeld ?rd12
    case hd12=>(intro w hSw;(try dsimp only at hSw);go_simp;(try with_reducible rfl))
    (try simp only [Act.put,sx])
    refine tk (i:=13) (oi:=⟨some 37,_,_,_,_,_⟩) (v:=?vd13) rfl (by kernel_rfl) (fun _ _ _ h=>h) (Or.inl ⟨by rfl,?hd13⟩) hHeld ?rd13
    case hd13=>(intro w hSw;(try dsimp only at hSw);go_simp;(try with_reducible rfl))
    (try simp only [Act.put,sx])
    refine wpAnyH_ready (rs:=[14]) (by kernel_rfl) (by simp) ?_;refine AllReadyH.cons rfl (fun K hK=>?_) AllReadyH.nil;go_simp
    go_wp2_with (go_at_call 163;refine (stmtRef_at hR _).mono ?_;rintro e w' ⟨rfl,rfl⟩)
    refine hK.out _ _ hHeld (fun hHeld=>?_);clear hK K;refine tk (i:=15) (oi:=⟨some 39,_,_,_,_,_⟩) (v:=?vd15) rfl (by kernel_rfl) (fun _ _ _ h=>h) (Or.inl ⟨by rfl,?hd15⟩) hHeld ?rd15
    case hd15=>(intro w hSw;(try dsimp only at hSw);go_simp;(try with_reducible rfl))
    (try simp only [Act.put,sx])
    refine tk (i:=16) (oi:=⟨some 40,_,_,_,_,_⟩) (v:=?vd16) rfl (by kernel_rfl) (fun _ _ _ h=>h) (Or.inl ⟨by rfl,?hd16⟩) hHeld ?rd16
    case hd16=>(intro w hSw;(try dsimp only at hSw);go_simp;(try with_reducible rfl))
    (try simp only [Act.put,sx])
    refine tk (i:=17) (oi:=⟨some 41,_,_,_,_,_⟩) (v:=undef) rfl (by kernel_rfl) (fun _ _ _ h=>h) (Or.inr ⟨by rfl,rfl⟩) hHeld ?rd17
    (try simp only [Act.put,sx])
    refine tk (i:=18) (oi:=⟨some 42,_,_,_,_,_⟩) (v:=undef) rfl (by kernel_rfl) (fun _ _ _ h=>h) (Or.inr ⟨by rfl,rfl⟩) hHeld ?rd18
    (try simp only [Act.put,sx])
    refine tk (i:=19) (oi:=⟨some 43,_,_,_,_,_⟩) (v:=undef) rfl (by kernel_rfl) (fun _ _ _ h=>h) (Or.inr ⟨by rfl,rfl⟩) hHeld ?rd19
    (try simp only [Act.put,sx])
    refine tk (i:=20) (oi:=⟨some 44,_,_,_,_,_⟩) (v:=undef) rfl (by kernel_rfl) (fun _ _ _ h=>h) (Or.inr ⟨by rfl,rfl⟩) hHeld ?rd20
    (try simp only [Act.put,sx])
    refine tk (i:=21) (oi:=⟨some 45,_,_,_,_,_⟩) (v:=undef) rfl (by kernel_rfl) (fun _ _ _ h=>h) (Or.inr ⟨by rfl,rfl⟩) hHeld ?rd21
    (try simp only [Act.put,sx])
    refine tk (i:=22) (oi:=⟨some 46,_,_,_,_,_⟩) (v:=undef) rfl (by kernel_rfl) (fun _ _ _ h=>h) (Or.inr ⟨by rfl,rfl⟩) hHeld ?rd22
    (try simp only [Act.put,sx])
    refine tk (i:=23) (oi:=⟨some 47,_,_,_,_,_⟩) (v:=undef) rfl (by kernel_rfl) (fun _ _ _ h=>h) (Or.inr ⟨by rfl,rfl⟩) hHeld ?rd23
    (try simp only [Act.put,sx])
    refine tk (i:=24) (oi:=⟨some 48,_,_,_,_,_⟩) (v:=undef) rfl (by kernel_rfl) (fun _ _ _ h=>h) (Or.inr ⟨by rfl,rfl⟩) hHeld ?rd24
    (try simp only [Act.put,sx])
    refine tk (i:=25) (oi:=⟨some 49,_,_,_,_,_⟩) (v:=?vd25) rfl (by kernel_rfl) (fun _ _ _ h=>h) (Or.inl ⟨by rfl,?hd25⟩) hHeld ?rd25
    case hd25=>(intro w hSw;(try dsimp only at hSw);go_simp;(try with_reducible rfl))
    (try simp only [Act.put,sx])
    refine tk (i:=26) (oi:=⟨some 50,_,_,_,_,_⟩) (v:=?vd26) rfl (by kernel_rfl) (fun _ _ _ h=>h) (Or.inl ⟨by rfl,?hd26⟩) hHeld ?rd26
    case hd26=>(intro w hSw;(try dsimp only at hSw);go_simp;(try with_reducible rfl))
    (try simp only [Act.put,sx])
    refine tk (i:=27) (oi:=⟨some 51,_,_,_,_,_⟩) (v:=?vd27) rfl (by kernel_rfl) (fun _ _ _ h=>h) (Or.inl ⟨by rfl,?hd27⟩) hHeld ?rd27
    case hd27=>(intro w hSw;(try dsimp only at hSw);go_simp;(try with_reducible rfl))
    (try simp only [Act.put,sx])
    refine tk (i:=28) (oi:=⟨some 52,_,_,_,_,_⟩) (v:=?vd28) rfl (by kernel_rfl) (fun _ _ _ h=>h) (Or.inl ⟨by rfl,?hd28⟩) hHeld ?rd28
    case hd28=>(intro w hSw;(try dsimp only at hSw);go_simp;(try with_reducible rfl))
    (try simp only [Act.put,sx])
    refine tk (i:=29) (oi:=⟨some 53,_,_,_,_,_⟩) (v:=?vd29) rfl (by kernel_rfl) (fun _ _ _ h=>h) (Or.inl ⟨by rfl,?hd29⟩) hHeld ?rd29
    case hd29=>(intro w hSw;(try dsimp only at hSw);go_simp;(try with_reducible rfl))
    (try simp only [Act.put,sx])
    refine wpAnyH_ready (rs:=[30]) (by kernel_rfl) (by simp) ?_;refine AllReadyH.cons rfl (fun K hK=>?_) AllReadyH.nil;go_simp
    go_wp2_with (go_at_call 246;refine (stmtArgs_at hq _).mono ?_;rintro e w' ⟨rfl,rfl⟩)
    refine hK.out _ _ hHeld (fun hHeld=>?_);clear hK K;refine tk (i:=31) (oi:=⟨some 55,_,_,_,_,_⟩) (v:=?vd31) rfl (by kernel_rfl) (fun _ _ _ h=>h) (Or.inl ⟨by rfl,?hd31⟩) hHeld ?rd31
    case hd31=>(intro w hSw;(try dsimp only at hSw);go_simp;(try with_reducible rfl))
    (try simp only [Act.put,sx])
    refine tk (i:=32) (oi:=⟨some 56,_,_,_,_,_⟩) (v:=?vd32) rfl (by kernel_rfl) (fun _ _ _ h=>h) (Or.inl ⟨by rfl,?hd32⟩) hHeld ?rd32
    case hd32=>(intro w hSw;(try dsimp only at hSw);go_simp;(try with_reducible rfl))
    (try simp only [Act.put,sx])
    refine tk (i:=33) (oi:=⟨some 57,_,_,_,_,_⟩) (v:=undef) rfl (by kernel_rfl) (fun _ _ _ h=>h) (Or.inr ⟨by rfl,rfl⟩) hHeld ?rd33
    (try simp only [Act.put,sx])
    refine tk (i:=34) (oi:=⟨some 58,_,_,_,_,_⟩) (v:=undef) rfl (by kernel_rfl) (fun _ _ _ h=>h) (Or.inr ⟨by rfl,rfl⟩) hHeld ?rd34
    (try simp only [Act.put,sx])
    refine tk (i:=35) (oi:=⟨some 59,_,_,_,_,_⟩) (v:=undef) rfl (by kernel_rfl) (fun _ _ _ h=>h) (Or.inr ⟨by rfl,rfl⟩) hHeld ?rd35
    (try simp only [Act.put,sx])
    refine tk (i:=36) (oi:=⟨some 60,_,_,_,_,_⟩) (v:=undef) rfl (by kernel_rfl) (fun _ _ _ h=>h) (Or.inr ⟨by rfl,rfl⟩) hHeld ?rd36
    (try simp only [Act.put,sx])
    refine tk (i:=37) (oi:=⟨some 61,_,_,_,_,_⟩) (v:=undef) rfl (by kernel_rfl) (fun _ _ _ h=>h) (Or.inr ⟨by rfl,rfl⟩) hHeld ?rd37
    (try simp only [Act.put,sx])
    refine tk (i:=38) (oi:=⟨some 62,_,_,_,_,_⟩) (v:=undef) rfl (by kernel_rfl) (fun _ _ _ h=>h) (Or.inr ⟨by rfl,rfl⟩) hHeld ?rd38
    (try simp only [Act.put,sx])
    refine tk (i:=39) (oi:=⟨some 63,_,_,_,_,_⟩) (v:=undef) rfl (by kernel_rfl) (fun _ _ _ h=>h) (Or.inr ⟨by rfl,rfl⟩) hHeld ?rd39
    (try simp only [Act.put,sx])
    refine tk (i:=40) (oi:=⟨some 64,_,_,_,_,_⟩) (v:=?vd40) rfl (by kernel_rfl) (fun _ _ _ h=>h) (Or.inl ⟨by rfl,?hd40⟩) hHeld ?rd40
    case hd40=>(intro w hSw;(try dsimp only at hSw);go_simp;(try with_reducible rfl))
    (try simp only [Act.put,sx])
    refine tk (i:=41) (oi:=⟨some 65,_,_,_,_,_⟩) (v:=?vd41) rfl (by kernel_rfl) (fun _ _ _ h=>h) (Or.inl ⟨by rfl,?hd41⟩) hHeld ?rd41
    case hd41=>(intro w hSw;(try dsimp only at hSw);go_simp;(try with_reducible rfl))
    (try simp only [Act.put,sx])
    refine tk (i:=42) (oi:=⟨some 66,_,_,_,_,_⟩) (v:=?vd42) rfl (by kernel_rfl) (fun _ _ _ h=>h) (Or.inl ⟨by rfl,?hd42⟩) hHeld ?rd42
    case hd42=>(intro w hSw;(try dsimp only at hSw);go_simp;(try with_reducible rfl))
    (try simp only [Act.put,sx])
    refine tk (i:=43) (oi:=⟨some 67,_,_,_,_,_⟩) (v:=?vd43) rfl (by kernel_rfl) (fun _ _ _ h=>h) (Or.inl ⟨by rfl,?hd43⟩) hHeld ?rd43
    case hd43=>(intro w hSw;(try dsimp only at hSw);go_simp;(try with_reducible rfl))
    (try simp only [Act.put,sx])
    refine tk (i:=44) (oi:=⟨some 68,_,_,_,_,_⟩) (v:=?vd44) rfl (by kernel_rfl) (fun _ _ _ h=>h) (Or.inl ⟨by rfl,?hd44⟩) hHeld ?rd44
    case hd44=>(intro w hSw;(try dsimp only at hSw);go_simp;(try with_reducible rfl))
    (try simp only [Act.put,sx])
    refine tk (i:=45) (oi:=⟨some 69,_,_,_,_,_⟩) (v:=?vd45) rfl (by kernel_rfl) (fun _ _ _ h=>h) (Or.inl ⟨by rfl,?hd45⟩) hHeld ?rd45
    case hd45=>(intro w hSw;(try dsimp only at hSw);go_simp;(try with_reducible rfl))
    (try simp only [Act.put,sx])
    refine tk (i:=46) (oi:=⟨some 70,_,_,_,_,_⟩) (v:=?vd46) rfl (by kernel_rfl) (fun _ _ _ h=>h) (Or.inl ⟨by rfl,?hd46⟩) hHeld ?rd46
    case hd46=>(intro w hSw;(try dsimp only at hSw);go_simp;(try with_reducible rfl))
    (try simp only [Act.put,sx])
    refine tk (i:=47) (oi:=⟨some 71,_,_,_,_,_⟩) (v:=?vd47) rfl (by kernel_rfl) (fun _ _ _ h=>h) (Or.inl ⟨by rfl,?hd47⟩) hHeld ?rd47
    case hd47=>(intro w hSw;(try dsimp only at hSw);go_simp;(try with_reducible rfl))
    (try simp only [Act.put,sx])
    refine tk (i:=48) (oi:=⟨some 72,_,_,_,_,_⟩) (v:=?vd48) rfl (by kernel_rfl) (fun _ _ _ h=>h) (Or.inl ⟨by rfl,?hd48⟩) hHeld ?rd48
    case hd48=>(intro w hSw;(try dsimp only at hSw);go_simp;(try with_reducible rfl))
    (try simp only [Act.put,sx])
    refine tk (i:=49) (oi:=⟨some 73,_,_,_,_,_⟩) (v:=?vd49) rfl (by kernel_rfl) (fun _ _ _ h=>h) (Or.inl ⟨by rfl,?hd49⟩) hHeld ?rd49
    case hd49=>(intro w hSw;(try dsimp only at hSw);go_simp;(try with_reducible rfl))
    (try simp only [Act.put,sx])
    refine tk (i:=50) (oi:=⟨some 74,_,_,_,_,_⟩) (v:=?vd50) rfl (by kernel_rfl) (fun _ _ _ h=>h) (Or.inl ⟨by rfl,?hd50⟩) hHeld ?rd50
    case hd50=>(intro w hSw;(try dsimp only at hSw);go_simp;(try with_reducible rfl))
    (try simp only [Act.put,sx])
    refine tk (i:=51) (oi:=⟨some 75,_,_,_,_,_⟩) (v:=?vd51) rfl (by kernel_rfl) (fun _ _ _ h=>h) (Or.inl ⟨by rfl,?hd51⟩) hHeld ?rd51
    case hd51=>(intro w hSw;(try dsimp only at hSw);go_simp;(try with_reducible rfl))
    (try simp only [Act.put,sx])
    refine tk (i:=52) (oi:=⟨some 76,_,_,_,_,_⟩) (v:=?vd52) rfl (by kernel_rfl) (fun _ _ _ h=>h) (Or.inl ⟨by rfl,?hd52⟩) hHeld ?rd52
    case hd52=>(intro w hSw;(try dsimp only at hSw);go_simp;(try with_reducible rfl))
    (try simp only [Act.put,sx])
    refine tk (i:=53) (oi:=⟨some 77,_,_,_,_,_⟩) (v:=?vd53) rfl (by kernel_rfl) (fun _ _ _ h=>h) (Or.inl ⟨by rfl,?hd53⟩) hHeld ?rd53
    case hd53=>(intro w hSw;(try dsimp only at hSw);go_simp;(try with_reducible rfl))
    (try simp only [Act.put,sx])
    refine tk (i:=54) (oi:=⟨some 78,_,_,_,_,_⟩) (v:=?vd54) rfl (by kernel_rfl) (fun _ _ _ h=>h) (Or.inl ⟨by rfl,?hd54⟩) hHeld ?rd54
    case hd54=>(intro w hSw;(try dsimp only at hSw);go_simp;(try with_reducible rfl))
    (try simp only [Act.put,sx])
    refine tk (i:=55) (oi:=⟨some 79,_,_,_,_,_⟩) (v:=?vd55) rfl (by kernel_rfl) (fun _ _ _ h=>h) (Or.inl ⟨by rfl,?hd55⟩) hHeld ?rd55
    case hd55=>(intro w hSw;(try dsimp only at hSw);go_simp;(try with_reducible rfl))
    (try simp only [Act.put,sx])
    refine tk (i:=56) (oi:=⟨some 80,_,_,_,_,_⟩) (v:=?vd56) rfl (by kernel_rfl) (fun _ _ _ h=>h) (Or.inl ⟨by rfl,?hd56⟩) hHeld ?rd56
    case hd56=>(intro w hSw;(try dsimp only at hSw);go_simp;(try with_reducible rfl))
    (try simp only [Act.put,sx])
    refine tk (i:=57) (oi:=⟨some 81,_,_,_,_,_⟩) (v:=?vd57) rfl (by kernel_rfl) (fun _ _ _ h=>h) (Or.inl ⟨by rfl,?hd57⟩) hHeld ?rd57
    case hd57=>(intro w hSw;(try dsimp only at hSw);go_simp;(try with_reducible rfl))
    (try simp only [Act.put,sx])
    refine tk (i:=58) (oi:=⟨some 82,_,_,_,_,_⟩) (v:=?vd58) rfl (by kernel_rfl) (fun _ _ _ h=>h) (Or.inl ⟨by rfl,?hd58⟩) hHeld ?rd58
    case hd58=>(intro w hSw;(try dsimp only at hSw);go_simp;(try with_reducible rfl))
    (try simp only [Act.put,sx])
    refine tk (i:=59) (oi:=⟨some 83,_,_,_,_,_⟩) (v:=?vd59) rfl (by kernel_rfl) (fun _ _ _ h=>h) (Or.inl ⟨by rfl,?hd59⟩) hHeld ?rd59
    case hd59=>(intro w hSw;(try dsimp only at hSw);go_simp;(try with_reducible rfl))
    (try simp only [Act.put,sx])
    refine tk (i:=60) (oi:=⟨some 84,_,_,_,_,_⟩) (v:=?vd60) rfl (by kernel_rfl) (fun _ _ _ h=>h) (Or.inl ⟨by rfl,?hd60⟩) hHeld ?rd60
    case hd60=>(intro w hSw;(try dsimp only at hSw);go_simp;(try with_reducible rfl))
    (try simp only [Act.put,sx])
    refine tk (i:=61) (oi:=⟨some 85,_,_,_,_,_⟩) (v:=?vd61) rfl (by kernel_rfl) (fun _ _ _ h=>h) (Or.inl ⟨by rfl,?hd61⟩) hHeld ?rd61
    case hd61=>(intro w hSw;(try dsimp only at hSw);go_simp;(try with_reducible rfl))
    (try simp only [Act.put,sx])
    refine tk (i:=62) (oi:=⟨some 86,_,_,_,_,_⟩) (v:=?vd62) rfl (by kernel_rfl) (fun _ _ _ h=>h) (Or.inl ⟨by rfl,?hd62⟩) hHeld ?rd62
    case hd62=>(intro w hSw;(try dsimp only at hSw);go_simp;(try with_reducible rfl))
    (try simp only [Act.put,sx])
    refine tk (i:=63) (oi:=⟨some 87,_,_,_,_,_⟩) (v:=?vd63) rfl (by kernel_rfl) (fun _ _ _ h=>h) (Or.inl ⟨by rfl,?hd63⟩) hHeld ?rd63
    case hd63=>(intro w hSw;(try dsimp only at hSw);go_simp;(try with_reducible rfl))
    (try simp only [Act.put,sx])
    refine tk (i:=64) (oi:=⟨some 88,_,_,_,_,_⟩) (v:=?vd64) rfl (by kernel_rfl) (fun _ _ _ h=>h) (Or.inl ⟨by rfl,?hd64⟩) hHeld ?rd64
    case hd64=>(intro w hSw;(try dsimp only at hSw);go_simp;(try with_reducible rfl))
    (try simp only [Act.put,sx])
    refine tk (i:=65) (oi:=⟨some 89,_,_,_,_,_⟩) (v:=?vd65) rfl (by kernel_rfl) (fun _ _ _ h=>h) (Or.inl ⟨by rfl,?hd65⟩) hHeld ?rd65
    case hd65=>(intro w hSw;(try dsimp only at hSw);go_simp;(try with_reducible rfl))
    (try simp only [Act.put,sx])
    refine tk (i:=66) (oi:=⟨some 90,_,_,_,_,_⟩) (v:=?vd66) rfl (by kernel_rfl) (fun _ _ _ h=>h) (Or.inl ⟨by rfl,?hd66⟩) hHeld ?rd66
    case hd66=>(intro w hSw;(try dsimp only at hSw);go_simp;(try with_reducible rfl))
    (try simp only [Act.put,sx])
    refine tk (i:=67) (oi:=⟨some 91,_,_,_,_,_⟩) (v:=?vd67) rfl (by kernel_rfl) (fun _ _ _ h=>h) (Or.inl ⟨by rfl,?hd67⟩) hHeld ?rd67
    case hd67=>(intro w hSw;(try dsimp only at hSw);go_simp;(try with_reducible rfl))
    (try simp only [Act.put,sx])
    refine tk (i:=68) (oi:=⟨some 92,_,_,_,_,_⟩) (v:=?vd68) rfl (by kernel_rfl) (fun _ _ _ h=>h) (Or.inl ⟨by rfl,?hd68⟩) hHeld ?rd68
    case hd68=>(intro w hSw;(try dsimp only at hSw);go_simp;(try with_reducible rfl))
    (try simp only [Act.put,sx])
    refine wpAnyH_done (by kernel_rfl) ?_ _;go_wp2_with fail;go_meet;exact ⟨by rw [HE.out],endB FF⟩
 case rest =>
  obtain ⟨rfl,HBc⟩:=hcut;have HB0':Hid (Below w.heap.size w wc):=thenB HB0.out HBc.out;have HBx':Hid (Blk wc w.heap.size [.int .i64 op,.string mod,.string name,.slice aa l.length cap,.slice ab bd.length cab,.slice ac ot.length cac]):=HBx.out.later HBc.out;clear HB0 HBx HBc HC;have HB0:=HB0';have HBx:=HBx';clear HB0' HBx';obtain ⟨x0,x1,x2,x3,x4,x5,xz⟩:=HBx.out.c6;clear x0 x1 x2 x4 x5
  cases hCb:C with
  | true=>
    subst hCb;go_wp2_with fail;go_ret;exact ⟨ret_bool (HR.out rfl),HB0.out⟩
  | false =>
    subst hCb;go_wp2_with fail
    go_loopw [7] (fun i wr=>∃ j:Nat,j<=l.length/\i = .int .i64 j/\(l.take j).any (eL 3 6)=false/\Below w.heap.size w wr/\Blk wr w.heap.size [.int .i64 op,.string mod,.string name,.slice aa l.length cap,.slice ab bd.length cab,.slice ac ot.length cac]) (fun i _=>l.length - (intOf i).toNat)
    case atStart=>exact ⟨0,Nat.zero_le _,rfl,rfl,HB0.out,HBx.out⟩
    case round =>
     obtain ⟨j,hj,rfl,hall,hb,hB⟩:=hrel;clear HBx HB0;clear x3 xz;obtain ⟨q0,q1,q2,q3,q4,q5,qz⟩:=hB.c6;clear q1 q2;have HB:Hid (Blk wr w.heap.size [.int .i64 op,.string mod,.string name,.slice aa l.length cap,.slice ab bd.length cab,.slice ac ot.length cac]):=hB;have HA:Hid ((l.take j).any (eL 3 6)=false):=hall;clear hall hB
     by_cases hlt:j<l.length
     . obtain ⟨b,off,a2,cp,rfl,hx⟩:=(HD.out.later hb).ex j hlt
       have hc0:=hx.c0;have hc1:=hx.c1;have hc2:=hx.c2;have hc3:=hx.c3;have hc4:=hx.c4;have hlb:=hx.lt;have HX:Hid (ExAt wr A b (off+j*5) l[j] a2 cp):=hx;clear hx;go_wp2_with fail;refine (exprLook_any A 6 (by omega) 3 (by omega) l[j] a2 cp 1 _ (by omega) HX.out.args HX.out.wm HX.out.wna).mono ?_
       cases hr:eL 3 6 l[j] with
       | true=>
         have HF:Hid (l.any (eL 3 6)=true):=any_at l _ j hlt hr;rintro e w3 ⟨rfl,hb3⟩;go_wp2_with fail;go_ret;exact ⟨ret_bool (HR.out (by rw [HF.out];simp)),thenB hb hb3⟩
       | false=>
         have HT:Hid ((l.take (j+1)).any (eL 3 6)=false):=by
          show _=_
          rw [any_snoc l _ j hlt,HA.out,hr];rfl
         rintro e w3 ⟨rfl,hb3⟩;go_wp2_with fail;go_roundw
         case rel=>exact ⟨j+1,by omega,by go_num,HT.out,thenB hb hb3,HB.out.later hb3⟩
         case measure=>simp [intOf];omega
     . have HT : Hid (l.any (eL 3 6)=false):=any_end HA.out hlt
       have HS:Hid (∀ {b:Bool},(((op == 4||op == 5)||decide (0<bd.length))&&bL 3 k bd||(decide (0<ot.length)&&bL 3 k ot))=b->b=sL 3 k (St.mk op mod name l bd ot)):=fun h=>HR.out (by rw [HT.out,Bool.false_or,Bool.false_or];exact h)
       clear HR HT HA HD;have HDb':Hid (DAt wr A ab bd.length (stsD bd)):=HDb.out.later hb;have HDo':Hid (DAt wr A ac ot.length (stsD ot)):=HDo.out.later hb;clear HDb HDo
       cases h4:(op == 4) with
       | true=>
         go_wp2_with fail;refine (HI.out bd ab cab _ HDb'.out).mono ?_
         cases hr1:bL 3 k bd with
         | true=>
           rintro e w4 ⟨rfl,c1⟩;go_wp2_with fail;go_ret;exact ⟨ret_bool (HS.out (by simp [hr1,h4])),thenB hb c1⟩
         | false=>
           rintro e w4 ⟨rfl,c1⟩;clear q0 q3 q4 q5 qz;obtain ⟨q0,q1,q2,q3,q4,q5,qz⟩:=(HB.out.later c1).c6;clear q0 q1 q2 q3 q4
           by_cases ho:0<ot.length
           . go_wp2_with fail
             refine (HI.out ot ac cac _ (HDo'.out.later c1)).mono ?_
             cases hr2:bL 3 k ot with
             | true=>
               rintro e w5 ⟨rfl,c2⟩;go_wp2_with fail;go_ret;exact ⟨ret_bool (HS.out (by simp [hr2,ho])),thenB (thenB hb c1) c2⟩
             | false=>
               rintro e w5 ⟨rfl,c2⟩;go_wp2_with fail;go_ret;exact ⟨ret_bool (HS.out (by simp [hr2,hr1])),thenB (thenB hb c1) c2⟩
           . go_wp2_with fail
             go_ret;exact ⟨ret_bool (HS.out (by simp [ho,hr1])),(thenB hb c1)⟩
       | false =>
         cases h5:(op == 5) with
         | true=>
           go_wp2_with fail;refine (HI.out bd ab cab _ HDb'.out).mono ?_
           cases hr1:bL 3 k bd with
           | true=>
             rintro e w4 ⟨rfl,c1⟩;go_wp2_with fail;go_ret;exact ⟨ret_bool (HS.out (by simp [hr1,h4,h5])),thenB hb c1⟩
           | false=>
             rintro e w4 ⟨rfl,c1⟩;clear q0 q3 q4 q5 qz;obtain ⟨q0,q1,q2,q3,q4,q5,qz⟩:=(HB.out.later c1).c6;clear q0 q1 q2 q3 q4
             by_cases ho:0<ot.length
             . go_wp2_with fail
               refine (HI.out ot ac cac _ (HDo'.out.later c1)).mono ?_
               cases hr2:bL 3 k ot with
               | true=>
                 rintro e w5 ⟨rfl,c2⟩;go_wp2_with fail;go_ret;exact ⟨ret_bool (HS.out (by simp [hr2,ho])),thenB (thenB hb c1) c2⟩
               | false=>
                 rintro e w5 ⟨rfl,c2⟩;go_wp2_with fail;go_ret;exact ⟨ret_bool (HS.out (by simp [hr2,hr1])),thenB (thenB hb c1) c2⟩
             . go_wp2_with fail
               go_ret;exact ⟨ret_bool (HS.out (by simp [ho,hr1])),(thenB hb c1)⟩
         | false =>
           by_cases hb0:0<bd.length
           . skip
             go_wp2_with fail;refine (HI.out bd ab cab _ HDb'.out).mono ?_
             cases hr1:bL 3 k bd with
             | true=>
               rintro e w4 ⟨rfl,c1⟩;go_wp2_with fail;go_ret;exact ⟨ret_bool (HS.out (by simp [hr1,h4,h5,hb0])),thenB hb c1⟩
             | false=>
               rintro e w4 ⟨rfl,c1⟩;clear q0 q3 q4 q5 qz;obtain ⟨q0,q1,q2,q3,q4,q5,qz⟩:=(HB.out.later c1).c6;clear q0 q1 q2 q3 q4
               by_cases ho:0<ot.length
               . go_wp2_with fail
                 refine (HI.out ot ac cac _ (HDo'.out.later c1)).mono ?_
                 cases hr2:bL 3 k ot with
                 | true=>
                   rintro e w5 ⟨rfl,c2⟩;go_wp2_with fail;go_ret;exact ⟨ret_bool (HS.out (by simp [hr2,ho])),thenB (thenB hb c1) c2⟩
                 | false=>
                   rintro e w5 ⟨rfl,c2⟩;go_wp2_with fail;go_ret;exact ⟨ret_bool (HS.out (by simp [hr2,hr1])),thenB (thenB hb c1) c2⟩
               . go_wp2_with fail
                 go_ret;exact ⟨ret_bool (HS.out (by simp [ho,hr1])),(thenB hb c1)⟩
           . skip
             by_cases ho:0<ot.length
             . go_wp2_with fail
               refine (HI.out ot ac cac _ HDo'.out).mono ?_
               cases hr2:bL 3 k ot with
               | true=>
                 rintro e w5 ⟨rfl,c2⟩;go_wp2_with fail;go_ret;exact ⟨ret_bool (HS.out (by simp [hr2,ho])),thenB hb c2⟩
               | false=>
                 rintro e w5 ⟨rfl,c2⟩;go_wp2_with fail;go_ret;exact ⟨ret_bool (HS.out (by simp [hr2,h4,h5,hb0])),thenB hb c2⟩
             . go_wp2_with fail
               go_ret;exact ⟨ret_bool (HS.out (by simp [ho,h4,h5,hb0])),hb⟩
end Go.Proofs.YtndkhgakfodldaaGreatDoor
