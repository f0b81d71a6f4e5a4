/-
  stmtLook, level 3: a set or a put.
-/
import Derived.Test.YtndkhgakfodldaaGreatDoorRc
namespace Go.Proofs.YtndkhgakfodldaaGreatDoor
set_option maxRecDepth 100000
set_option maxHeartbeats 8000000
open Go.RowKit Go.Maps
theorem stmtStep3e (A:Nat->Prop) (k:Nat) (op:Int) (mod name:ByteArray) (l:List Ex) (bd ot:List St) (aa ab ac:Option Addr) (cap cab cac:Nat) (deep:Int) (w:World) (hbd:l.length<=17592186044416) (hd1:1<=deep) (hd6:deep<=6)
 (HI:Hid (∀ (l:List St) (a:Option Addr) (cap:Nat) (w:World),DAt w A a l.length (stsD l)->Calls Tryz.prog 156 #[.slice a l.length cap,.int .i64 3,.int .i64 (deep+1)] w fun e w'=>e = .returned (.bool (bL 3 k l))/\Below w.heap.size w w'))
 (HD:Hid (DAt w A aa l.length (exsD l))) (HDb:Hid (DAt w A ab bd.length (stsD bd))) (HDo:Hid (DAt w A ac ot.length (stsD ot))) (HWm:Hid (mod.size<=maxLen)) (HWn:Hid (name.size<=maxLen))
 (hR:inB op 1 3=true) (hf:fineB mod name=true) (h0:decide (0<=stN op)=true) :
 Calls Tryz.prog 191 #[.agg #[.int .i64 op,.string mod,.string name,.slice aa l.length cap,.slice ab bd.length cab,.slice ac ot.length cac],.int .i64 3,.int .i64 deep] w fun e w'=>e = .returned (.bool (sL 3 k (St.mk op mod name l bd ot)))/\Below w.heap.size w w':=by
 have HR:Hid (∀ {b:Bool},(sBad 3 (St.mk op mod name l bd ot)||(l.any (eL 3 6)||(((op == 4||op == 5)||decide (0<bd.length))&&bL 3 k bd||(decide (0<ot.length)&&bL 3 k ot))))=b->b=sL 3 k (St.mk op mod name l bd ot)):=fun h=>by rw [← h];rfl
 have HBx:Hid (Blk (w.alloc (.cells #[.int .i64 op,.string mod,.string name,.slice aa l.length cap,.slice ab bd.length cab,.slice ac ot.length cac] 176)) w.heap.size [.int .i64 op,.string mod,.string name,.slice aa l.length cap,.slice ab bd.length cab,.slice ac ot.length cac]):=Blk.new w _ _;have HB0:Hid (Below w.heap.size w (w.alloc (.cells #[.int .i64 op,.string mod,.string name,.slice aa l.length cap,.slice ab bd.length cab,.slice ac ot.length cac] 176))):=al1 _ _;have HC:Hid (sBad 3 (St.mk op mod name l bd ot)=((inB op 1 3 && !fineB mod name)||(!inB op 1 3&&(!mod.toList.isEmpty || !name.toList.isEmpty))||(decide (0<=stN op)&&((l.length:Int) != stN op))||(op != 4&&op != 5&&decide (0<bd.length))||(op != 4&&decide (0<ot.length)))):=rfl;generalize hCC:sBad 3 (St.mk op mod name l bd ot)=C at HC HR;clear hCC;go_enter Tryz.func191,Tryz.ntmps191
 go_upto_region 9 with fail;generalize hW0:w.alloc (.cells #[.int .i64 op,.string mod,.string name,.slice aa l.length cap,.slice ab bd.length cab,.slice ac ot.length cac] 176)=W0 at *;clear hW0
 go_cut [92] (fun v wc=>v = .bool C/\Hid (Below W0.heap.size W0 wc))
 case first=>
  clear HD HDb HDo HI HR HB0;obtain ⟨x0,x1,x2,x3,x4,x5,xz⟩:=HBx.out.c6;have HBz:Hid (Below W0.heap.size W0 W0.drew):=(Below.refl _ _).drew;generalize hq:stN op=q at *;simp only [List.append_eq,List.cons_append,List.nil_append];have h4:(op != 4)=true:=bne_iff_ne.2 (by simp [inB] at hR;omega);have h5:(op != 5)=true:=bne_iff_ne.2 (by simp [inB] at hR;omega)
  cases hl:((l.length:Int) != q) with
  | true=>
    have HE:Hid (C=true):=by show _=_;rw [HC.out];simp [hR,hf,h0,hl]
    refine wp_region_held_drew (S:=(fun W=>W.cell? ⟨w.heap.size,0,none⟩=some (.int .i64 op)/\W.cell? ⟨w.heap.size,1,none⟩=some (.string mod)/\W.cell? ⟨w.heap.size,2,none⟩=some (.string name)/\W.cell? ⟨w.heap.size,3,none⟩=some (.slice aa l.length cap)/\W.cell? ⟨w.heap.size,4,none⟩=some (.slice ab bd.length cab)/\W.cell? ⟨w.heap.size,5,none⟩=some (.slice ac ot.length cac))) (by kernel_rfl) ?_ (fun hHeld=>?_)
    . (try dsimp only);go_keep
    refine tk (i:=0) (oi:=⟨some 24,_,_,_,_,_⟩) (v:=?ve0) rfl (by kernel_rfl) (fun _ _ _ h=>h) (Or.inl ⟨by rfl,?he0⟩) hHeld ?re0
    case he0=>(intro w hSw;(try dsimp only at hSw);go_simp;(try with_reducible rfl))
    (try simp only [Act.put,sx])
    refine tk (i:=1) (oi:=⟨some 25,_,_,_,_,_⟩) (v:=?ve1) rfl (by kernel_rfl) (fun _ _ _ h=>h) (Or.inl ⟨by rfl,?he1⟩) hHeld ?re1
    case he1=>(intro w hSw;(try dsimp only at hSw);go_simp;(try with_reducible rfl))
    (try simp only [Act.put,sx])
    refine wpAnyH_ready (rs:=[2]) (by kernel_rfl) (by simp) ?_;refine AllReadyH.cons rfl (fun K hK=>?_) AllReadyH.nil;go_simp
    go_wp2_with (go_at_call 163;refine (stmtRef_at hR _).mono ?_;rintro e w' ⟨rfl,rfl⟩)
    refine hK.out _ _ hHeld (fun hHeld=>?_);clear hK K;refine tk (i:=3) (oi:=⟨some 27,_,_,_,_,_⟩) (v:=?ve3) rfl (by kernel_rfl) (fun _ _ _ h=>h) (Or.inl ⟨by rfl,?he3⟩) hHeld ?re3
    case he3=>(intro w hSw;(try dsimp only at hSw);go_simp;(try with_reducible rfl))
    (try simp only [Act.put,sx])
    refine tk (i:=4) (oi:=⟨some 28,_,_,_,_,_⟩) (v:=?ve4) rfl (by kernel_rfl) (fun _ _ _ h=>h) (Or.inl ⟨by rfl,?he4⟩) hHeld ?re4
    case he4=>(intro w hSw;(try dsimp only at hSw);go_simp;(try with_reducible rfl))
    (try simp only [Act.put,sx])
    refine tk (i:=5) (oi:=⟨some 29,_,_,_,_,_⟩) (v:=?ve5) rfl (by kernel_rfl) (fun _ _ _ h=>h) (Or.inl ⟨by rfl,?he5⟩) hHeld ?re5
    case he5=>(intro w hSw;(try dsimp only at hSw);go_simp;(try with_reducible rfl))
    (try simp only [Act.put,sx])
    refine tk (i:=6) (oi:=⟨some 30,_,_,_,_,_⟩) (v:=?ve6) rfl (by kernel_rfl) (fun _ _ _ h=>h) (Or.inl ⟨by rfl,?he6⟩) hHeld ?re6
    case he6=>(intro w hSw;(try dsimp only at hSw);go_simp;(try with_reducible rfl))
    (try simp only [Act.put,sx])
    refine tk (i:=7) (oi:=⟨some 31,_,_,_,_,_⟩) (v:=?ve7) rfl (by kernel_rfl) (fun _ _ _ h=>h) (Or.inl ⟨by rfl,?he7⟩) hHeld ?re7
    case he7=>(intro w hSw;(try dsimp only at hSw);go_simp;(try with_reducible rfl))
    (try simp only [Act.put,sx])
    refine wpAnyH_ready (rs:=[8]) (by kernel_rfl) (by simp) ?_;refine AllReadyH.cons rfl (fun K hK=>?_) AllReadyH.nil;go_simp
    go_wp2_with (go_at_call 245;refine (refFine_at hf _ HWm.out HWn.out).mono ?_;rintro e w' ⟨rfl,hb⟩)
    have FF:=bx6 HBx HBz hb;clear hb;refine hK.out _ _ FF.out.2 (fun hHeld=>?_);clear hK K;refine tk (i:=9) (oi:=⟨some 33,_,_,_,_,_⟩) (v:=?ve9) rfl (by kernel_rfl) (fun _ _ _ h=>h) (Or.inl ⟨by rfl,?he9⟩) hHeld ?re9
    case he9=>(intro w hSw;(try dsimp only at hSw);go_simp;(try with_reducible rfl))
    (try simp only [Act.put,sx])
    refine tk (i:=10) (oi:=⟨some 34,_,_,_,_,_⟩) (v:=?ve10) rfl (by kernel_rfl) (fun _ _ _ h=>h) (Or.inl ⟨by rfl,?he10⟩) hHeld ?re10
    case he10=>(intro w hSw;(try dsimp only at hSw);go_simp;(try with_reducible rfl))
    (try simp only [Act.put,sx])
    refine tk (i:=11) (oi:=⟨some 35,_,_,_,_,_⟩) (v:=?ve11) rfl (by kernel_rfl) (fun _ _ _ h=>h) (Or.inl ⟨by rfl,?he11⟩) hHeld ?re11
    case he11=>(intro w hSw;(try dsimp only at hSw);go_simp;(try with_reducible rfl))
    (try simp only [Act.put,sx])
    refine tk (i:=12) (oi:=⟨some 36,_,_,_,_,_⟩) (v:=?ve12) rfl (by kernel_rfl) (fun _ _ _ h=>h) (Or.inl ⟨by rfl,?he12⟩) hHeld ?re12
    case he12=>(intro w hSw;(try dsimp only at hSw);go_simp;(try with_reducible rfl))
    (try simp only [Act.put,sx])
    refine tk (i:=13) (oi:=⟨some 37,_,_,_,_,_⟩) (v:=?ve13) rfl (by kernel_rfl) (fun _ _ _ h=>h) (Or.inl ⟨by rfl,?he13⟩) hHeld ?re13
    case he13=>(intro w hSw;(try dsimp only at hSw);go_simp;(try with_reducible rfl))
    (try simp only [Act.put,sx])
    refine wpAnyH_ready (rs:=[14]) (by kernel_rfl) (by simp) ?_;refine AllReadyH.cons rfl (fun K hK=>?_) AllReadyH.nil;go_simp
    go_wp2_with (go_at_call 163;refine (stmtRef_at hR _).mono ?_;rintro e w' ⟨rfl,rfl⟩)
    refine hK.out _ _ hHeld (fun hHeld=>?_);clear hK K;refine tk (i:=15) (oi:=⟨some 39,_,_,_,_,_⟩) (v:=?ve15) rfl (by kernel_rfl) (fun _ _ _ h=>h) (Or.inl ⟨by rfl,?he15⟩) hHeld ?re15
    case he15=>(intro w hSw;(try dsimp only at hSw);go_simp;(try with_reducible rfl))
    (try simp only [Act.put,sx])
    refine tk (i:=16) (oi:=⟨some 40,_,_,_,_,_⟩) (v:=?ve16) rfl (by kernel_rfl) (fun _ _ _ h=>h) (Or.inl ⟨by rfl,?he16⟩) hHeld ?re16
    case he16=>(intro w hSw;(try dsimp only at hSw);go_simp;(try with_reducible rfl))
    (try simp only [Act.put,sx])
    refine tk (i:=17) (oi:=⟨some 41,_,_,_,_,_⟩) (v:=undef) rfl (by kernel_rfl) (fun _ _ _ h=>h) (Or.inr ⟨by rfl,rfl⟩) hHeld ?re17
    (try simp only [Act.put,sx])
    refine tk (i:=18) (oi:=⟨some 42,_,_,_,_,_⟩) (v:=undef) rfl (by kernel_rfl) (fun _ _ _ h=>h) (Or.inr ⟨by rfl,rfl⟩) hHeld ?re18
    (try simp only [Act.put,sx])
    refine tk (i:=19) (oi:=⟨some 43,_,_,_,_,_⟩) (v:=undef) rfl (by kernel_rfl) (fun _ _ _ h=>h) (Or.inr ⟨by rfl,rfl⟩) hHeld ?re19
    (try simp only [Act.put,sx])
    refine tk (i:=20) (oi:=⟨some 44,_,_,_,_,_⟩) (v:=undef) rfl (by kernel_rfl) (fun _ _ _ h=>h) (Or.inr ⟨by rfl,rfl⟩) hHeld ?re20
    (try simp only [Act.put,sx])
    refine tk (i:=21) (oi:=⟨some 45,_,_,_,_,_⟩) (v:=undef) rfl (by kernel_rfl) (fun _ _ _ h=>h) (Or.inr ⟨by rfl,rfl⟩) hHeld ?re21
    (try simp only [Act.put,sx])
    refine tk (i:=22) (oi:=⟨some 46,_,_,_,_,_⟩) (v:=undef) rfl (by kernel_rfl) (fun _ _ _ h=>h) (Or.inr ⟨by rfl,rfl⟩) hHeld ?re22
    (try simp only [Act.put,sx])
    refine tk (i:=23) (oi:=⟨some 47,_,_,_,_,_⟩) (v:=undef) rfl (by kernel_rfl) (fun _ _ _ h=>h) (Or.inr ⟨by rfl,rfl⟩) hHeld ?re23
    (try simp only [Act.put,sx])
    refine tk (i:=24) (oi:=⟨some 48,_,_,_,_,_⟩) (v:=undef) rfl (by kernel_rfl) (fun _ _ _ h=>h) (Or.inr ⟨by rfl,rfl⟩) hHeld ?re24
    (try simp only [Act.put,sx])
    refine tk (i:=25) (oi:=⟨some 49,_,_,_,_,_⟩) (v:=?ve25) rfl (by kernel_rfl) (fun _ _ _ h=>h) (Or.inl ⟨by rfl,?he25⟩) hHeld ?re25
    case he25=>(intro w hSw;(try dsimp only at hSw);go_simp;(try with_reducible rfl))
    (try simp only [Act.put,sx])
    refine tk (i:=26) (oi:=⟨some 50,_,_,_,_,_⟩) (v:=?ve26) rfl (by kernel_rfl) (fun _ _ _ h=>h) (Or.inl ⟨by rfl,?he26⟩) hHeld ?re26
    case he26=>(intro w hSw;(try dsimp only at hSw);go_simp;(try with_reducible rfl))
    (try simp only [Act.put,sx])
    refine tk (i:=27) (oi:=⟨some 51,_,_,_,_,_⟩) (v:=?ve27) rfl (by kernel_rfl) (fun _ _ _ h=>h) (Or.inl ⟨by rfl,?he27⟩) hHeld ?re27
    case he27=>(intro w hSw;(try dsimp only at hSw);go_simp;(try with_reducible rfl))
    (try simp only [Act.put,sx])
    refine tk (i:=28) (oi:=⟨some 52,_,_,_,_,_⟩) (v:=?ve28) rfl (by kernel_rfl) (fun _ _ _ h=>h) (Or.inl ⟨by rfl,?he28⟩) hHeld ?re28
    case he28=>(intro w hSw;(try dsimp only at hSw);go_simp;(try with_reducible rfl))
    (try simp only [Act.put,sx])
    refine tk (i:=29) (oi:=⟨some 53,_,_,_,_,_⟩) (v:=?ve29) rfl (by kernel_rfl) (fun _ _ _ h=>h) (Or.inl ⟨by rfl,?he29⟩) hHeld ?re29
    case he29=>(intro w hSw;(try dsimp only at hSw);go_simp;(try with_reducible rfl))
    (try simp only [Act.put,sx])
    refine wpAnyH_ready (rs:=[30]) (by kernel_rfl) (by simp) ?_;refine AllReadyH.cons rfl (fun K hK=>?_) AllReadyH.nil;go_simp
    go_wp2_with (go_at_call 246;refine (stmtArgs_at hq _).mono ?_;rintro e w' ⟨rfl,rfl⟩)
    refine hK.out _ _ hHeld (fun hHeld=>?_);clear hK K;refine tk (i:=31) (oi:=⟨some 55,_,_,_,_,_⟩) (v:=?ve31) rfl (by kernel_rfl) (fun _ _ _ h=>h) (Or.inl ⟨by rfl,?he31⟩) hHeld ?re31
    case he31=>(intro w hSw;(try dsimp only at hSw);go_simp;(try with_reducible rfl))
    (try simp only [Act.put,sx])
    refine tk (i:=32) (oi:=⟨some 56,_,_,_,_,_⟩) (v:=?ve32) rfl (by kernel_rfl) (fun _ _ _ h=>h) (Or.inl ⟨by rfl,?he32⟩) hHeld ?re32
    case he32=>(intro w hSw;(try dsimp only at hSw);go_simp;(try with_reducible rfl))
    (try simp only [Act.put,sx])
    refine tk (i:=33) (oi:=⟨some 57,_,_,_,_,_⟩) (v:=?ve33) rfl (by kernel_rfl) (fun _ _ _ h=>h) (Or.inl ⟨by rfl,?he33⟩) hHeld ?re33
    case he33=>(intro w hSw;(try dsimp only at hSw);go_simp;(try with_reducible rfl))
    (try simp only [Act.put,sx])
    refine tk (i:=34) (oi:=⟨some 58,_,_,_,_,_⟩) (v:=?ve34) rfl (by kernel_rfl) (fun _ _ _ h=>h) (Or.inl ⟨by rfl,?he34⟩) hHeld ?re34
    case he34=>(intro w hSw;(try dsimp only at hSw);go_simp;(try with_reducible rfl))
    (try simp only [Act.put,sx])
    refine tk (i:=35) (oi:=⟨some 59,_,_,_,_,_⟩) (v:=?ve35) rfl (by kernel_rfl) (fun _ _ _ h=>h) (Or.inl ⟨by rfl,?he35⟩) hHeld ?re35
    case he35=>(intro w hSw;(try dsimp only at hSw);go_simp;(try with_reducible rfl))
    (try simp only [Act.put,sx])
    refine tk (i:=36) (oi:=⟨some 60,_,_,_,_,_⟩) (v:=?ve36) rfl (by kernel_rfl) (fun _ _ _ h=>h) (Or.inl ⟨by rfl,?he36⟩) hHeld ?re36
    case he36=>(intro w hSw;(try dsimp only at hSw);go_simp;(try with_reducible rfl))
    (try simp only [Act.put,sx])
    refine tk (i:=37) (oi:=⟨some 61,_,_,_,_,_⟩) (v:=?ve37) rfl (by kernel_rfl) (fun _ _ _ h=>h) (Or.inl ⟨by rfl,?he37⟩) hHeld ?re37
    case he37=>(intro w hSw;(try dsimp only at hSw);go_simp;(try with_reducible rfl))
    (try simp only [Act.put,sx])
    refine wpAnyH_ready (rs:=[38]) (by kernel_rfl) (by simp) ?_;refine AllReadyH.cons rfl (fun K hK=>?_) AllReadyH.nil;go_simp
    go_wp2_with (go_at_call 246;refine (stmtArgs_at hq _).mono ?_;rintro e w' ⟨rfl,rfl⟩)
    refine hK.out _ _ hHeld (fun hHeld=>?_);clear hK K;refine tk (i:=39) (oi:=⟨some 63,_,_,_,_,_⟩) (v:=?ve39) rfl (by kernel_rfl) (fun _ _ _ h=>h) (Or.inl ⟨by rfl,?he39⟩) hHeld ?re39
    case he39=>(intro w hSw;(try dsimp only at hSw);go_simp;(try with_reducible rfl))
    (try simp only [Act.put,sx])
    refine tk (i:=40) (oi:=⟨some 64,_,_,_,_,_⟩) (v:=?ve40) rfl (by kernel_rfl) (fun _ _ _ h=>h) (Or.inl ⟨by rfl,?he40⟩) hHeld ?re40
    case he40=>(intro w hSw;(try dsimp only at hSw);go_simp;(try with_reducible rfl))
    (try simp only [Act.put,sx])
    refine tk (i:=41) (oi:=⟨some 65,_,_,_,_,_⟩) (v:=?ve41) rfl (by kernel_rfl) (fun _ _ _ h=>h) (Or.inl ⟨by rfl,?he41⟩) hHeld ?re41
    case he41=>(intro w hSw;(try dsimp only at hSw);go_simp;(try with_reducible rfl))
    (try simp only [Act.put,sx])
    refine tk (i:=42) (oi:=⟨some 66,_,_,_,_,_⟩) (v:=?ve42) rfl (by kernel_rfl) (fun _ _ _ h=>h) (Or.inl ⟨by rfl,?he42⟩) hHeld ?re42
    case he42=>(intro w hSw;(try dsimp only at hSw);go_simp;(try with_reducible rfl))
    (try simp only [Act.put,sx])
    refine tk (i:=43) (oi:=⟨some 67,_,_,_,_,_⟩) (v:=undef) rfl (by kernel_rfl) (fun _ _ _ h=>h) (Or.inr ⟨by rfl,rfl⟩) hHeld ?re43
    (try simp only [Act.put,sx])
    refine tk (i:=44) (oi:=⟨some 68,_,_,_,_,_⟩) (v:=undef) rfl (by kernel_rfl) (fun _ _ _ h=>h) (Or.inr ⟨by rfl,rfl⟩) hHeld ?re44
    (try simp only [Act.put,sx])
    refine tk (i:=45) (oi:=⟨some 69,_,_,_,_,_⟩) (v:=undef) rfl (by kernel_rfl) (fun _ _ _ h=>h) (Or.inr ⟨by rfl,rfl⟩) hHeld ?re45
    (try simp only [Act.put,sx])
    refine tk (i:=46) (oi:=⟨some 70,_,_,_,_,_⟩) (v:=undef) rfl (by kernel_rfl) (fun _ _ _ h=>h) (Or.inr ⟨by rfl,rfl⟩) hHeld ?re46
    (try simp only [Act.put,sx])
    refine tk (i:=47) (oi:=⟨some 71,_,_,_,_,_⟩) (v:=undef) rfl (by kernel_rfl) (fun _ _ _ h=>h) (Or.inr ⟨by rfl,rfl⟩) hHeld ?re47
    (try simp only [Act.put,sx])
    refine tk (i:=48) (oi:=⟨some 72,_,_,_,_,_⟩) (v:=undef) rfl (by kernel_rfl) (fun _ _ _ h=>h) (Or.inr ⟨by rfl,rfl⟩) hHeld ?re48
    (try simp only [Act.put,sx])
    refine tk (i:=49) (oi:=⟨some 73,_,_,_,_,_⟩) (v:=undef) rfl (by kernel_rfl) (fun _ _ _ h=>h) (Or.inr ⟨by rfl,rfl⟩) hHeld ?re49
    (try simp only [Act.put,sx])
    refine tk (i:=50) (oi:=⟨some 74,_,_,_,_,_⟩) (v:=undef) rfl (by kernel_rfl) (fun _ _ _ h=>h) (Or.inr ⟨by rfl,rfl⟩) hHeld ?re50
    (try simp only [Act.put,sx])
    refine tk (i:=51) (oi:=⟨some 75,_,_,_,_,_⟩) (v:=undef) rfl (by kernel_rfl) (fun _ _ _ h=>h) (Or.inr ⟨by rfl,rfl⟩) hHeld ?re51
    (try simp only [Act.put,sx])
    refine tk (i:=52) (oi:=⟨some 76,_,_,_,_,_⟩) (v:=undef) rfl (by kernel_rfl) (fun _ _ _ h=>h) (Or.inr ⟨by rfl,rfl⟩) hHeld ?re52
    (try simp only [Act.put,sx])
    refine tk (i:=53) (oi:=⟨some 77,_,_,_,_,_⟩) (v:=undef) rfl (by kernel_rfl) (fun _ _ _ h=>h) (Or.inr ⟨by rfl,rfl⟩) hHeld ?re53
    (try simp only [Act.put,sx])
    refine tk (i:=54) (oi:=⟨some 78,_,_,_,_,_⟩) (v:=undef) rfl (by kernel_rfl) (fun _ _ _ h=>h) (Or.inr ⟨by rfl,rfl⟩) hHeld ?re54
    (try simp only [Act.put,sx])
    refine tk (i:=55) (oi:=⟨some 79,_,_,_,_,_⟩) (v:=undef) rfl (by kernel_rfl) (fun _ _ _ h=>h) (Or.inr ⟨by rfl,rfl⟩) hHeld ?re55
    (try simp only [Act.put,sx])
    refine tk (i:=56) (oi:=⟨some 80,_,_,_,_,_⟩) (v:=undef) rfl (by kernel_rfl) (fun _ _ _ h=>h) (Or.inr ⟨by rfl,rfl⟩) hHeld ?re56
    (try simp only [Act.put,sx])
    refine tk (i:=57) (oi:=⟨some 81,_,_,_,_,_⟩) (v:=?ve57) rfl (by kernel_rfl) (fun _ _ _ h=>h) (Or.inl ⟨by rfl,?he57⟩) hHeld ?re57
    case he57=>(intro w hSw;(try dsimp only at hSw);go_simp;(try with_reducible rfl))
    (try simp only [Act.put,sx])
    refine tk (i:=58) (oi:=⟨some 82,_,_,_,_,_⟩) (v:=?ve58) rfl (by kernel_rfl) (fun _ _ _ h=>h) (Or.inl ⟨by rfl,?he58⟩) hHeld ?re58
    case he58=>(intro w hSw;(try dsimp only at hSw);go_simp;(try with_reducible rfl))
    (try simp only [Act.put,sx])
    refine tk (i:=59) (oi:=⟨some 83,_,_,_,_,_⟩) (v:=undef) rfl (by kernel_rfl) (fun _ _ _ h=>h) (Or.inr ⟨by rfl,rfl⟩) hHeld ?re59
    (try simp only [Act.put,sx])
    refine tk (i:=60) (oi:=⟨some 84,_,_,_,_,_⟩) (v:=undef) rfl (by kernel_rfl) (fun _ _ _ h=>h) (Or.inr ⟨by rfl,rfl⟩) hHeld ?re60
    (try simp only [Act.put,sx])
    refine tk (i:=61) (oi:=⟨some 85,_,_,_,_,_⟩) (v:=undef) rfl (by kernel_rfl) (fun _ _ _ h=>h) (Or.inr ⟨by rfl,rfl⟩) hHeld ?re61
    (try simp only [Act.put,sx])
    refine tk (i:=62) (oi:=⟨some 86,_,_,_,_,_⟩) (v:=undef) rfl (by kernel_rfl) (fun _ _ _ h=>h) (Or.inr ⟨by rfl,rfl⟩) hHeld ?re62
    (try simp only [Act.put,sx])
    refine tk (i:=63) (oi:=⟨some 87,_,_,_,_,_⟩) (v:=undef) rfl (by kernel_rfl) (fun _ _ _ h=>h) (Or.inr ⟨by rfl,rfl⟩) hHeld ?re63
    (try simp only [Act.put,sx])
    refine tk (i:=64) (oi:=⟨some 88,_,_,_,_,_⟩) (v:=undef) rfl (by kernel_rfl) (fun _ _ _ h=>h) (Or.inr ⟨by rfl,rfl⟩) hHeld ?re64
    (try simp only [Act.put,sx])
    refine tk (i:=65) (oi:=⟨some 89,_,_,_,_,_⟩) (v:=undef) rfl (by kernel_rfl) (fun _ _ _ h=>h) (Or.inr ⟨by rfl,rfl⟩) hHeld ?re65
    (try simp only [Act.put,sx])
    refine tk (i:=66) (oi:=⟨some 90,_,_,_,_,_⟩) (v:=undef) rfl (by kernel_rfl) (fun _ _ _ h=>h) (Or.inr ⟨by rfl,rfl⟩) hHeld ?re66
    (try simp only [Act.put,sx])
    refine tk (i:=67) (oi:=⟨some 91,_,_,_,_,_⟩) (v:=undef) rfl (by kernel_rfl) (fun _ _ _ h=>h) (Or.inr ⟨by rfl,rfl⟩) hHeld ?re67
    (try simp only [Act.put,sx])
    refine tk (i:=68) (oi:=⟨some 92,_,_,_,_,_⟩) (v:=?ve68) rfl (by kernel_rfl) (fun _ _ _ h=>h) (Or.inl ⟨by rfl,?he68⟩) hHeld ?re68
    case he68=>(intro w hSw;(try dsimp only at hSw);go_simp;(try with_reducible rfl))
    (try simp only [Act.put,sx])
    refine wpAnyH_done (by kernel_rfl) ?_ _;go_wp2_with fail;go_meet;exact ⟨by rw [HE.out],endB FF⟩
  | false=>
    cases hb:decide (0<bd.length) with
    | true=>
      have HE:Hid (C=true):=by show _=_;rw [HC.out];simp [hR,hf,h0,hl,h4,h5,hb]
      refine wp_region_held_drew (S:=(fun W=>W.cell? ⟨w.heap.size,0,none⟩=some (.int .i64 op)/\W.cell? ⟨w.heap.size,1,none⟩=some (.string mod)/\W.cell? ⟨w.heap.size,2,none⟩=some (.string name)/\W.cell? ⟨w.heap.size,3,none⟩=some (.slice aa l.length cap)/\W.cell? ⟨w.heap.size,4,none⟩=some (.slice ab bd.length cab)/\W.cell? ⟨w.heap.size,5,none⟩=some (.slice ac ot.length cac))) (by kernel_rfl) ?_ (fun hHeld=>?_)
      . (try dsimp only);go_keep
      refine tk (i:=0) (oi:=⟨some 24,_,_,_,_,_⟩) (v:=?vf0) rfl (by kernel_rfl) (fun _ _ _ h=>h) (Or.inl ⟨by rfl,?hf0⟩) hHeld ?rf0
      case hf0=>(intro w hSw;(try dsimp only at hSw);go_simp;(try with_reducible rfl))
      (try simp only [Act.put,sx])
      refine tk (i:=1) (oi:=⟨some 25,_,_,_,_,_⟩) (v:=?vf1) rfl (by kernel_rfl) (fun _ _ _ h=>h) (Or.inl ⟨by rfl,?hf1⟩) hHeld ?rf1
      case hf1=>(intro w hSw;(try dsimp only at hSw);go_simp;(try with_reducible rfl))
      (try simp only [Act.put,sx])
      refine wpAnyH_ready (rs:=[2]) (by kernel_rfl) (by simp) ?_;refine AllReadyH.cons rfl (fun K hK=>?_) AllReadyH.nil;go_simp
      go_wp2_with (go_at_call 163;refine (stmtRef_at hR _).mono ?_;rintro e w' ⟨rfl,rfl⟩)
      refine hK.out _ _ hHeld (fun hHeld=>?_);clear hK K;refine tk (i:=3) (oi:=⟨some 27,_,_,_,_,_⟩) (v:=?vf3) rfl (by kernel_rfl) (fun _ _ _ h=>h) (Or.inl ⟨by rfl,?hf3⟩) hHeld ?rf3
      case hf3=>(intro w hSw;(try dsimp only at hSw);go_simp;(try with_reducible rfl))
      (try simp only [Act.put,sx])
      refine tk (i:=4) (oi:=⟨some 28,_,_,_,_,_⟩) (v:=?vf4) rfl (by kernel_rfl) (fun _ _ _ h=>h) (Or.inl ⟨by rfl,?hf4⟩) hHeld ?rf4
      case hf4=>(intro w hSw;(try dsimp only at hSw);go_simp;(try with_reducible rfl))
      (try simp only [Act.put,sx])
      refine tk (i:=5) (oi:=⟨some 29,_,_,_,_,_⟩) (v:=?vf5) rfl (by kernel_rfl) (fun _ _ _ h=>h) (Or.inl ⟨by rfl,?hf5⟩) hHeld ?rf5
      case hf5=>(intro w hSw;(try dsimp only at hSw);go_simp;(try with_reducible rfl))
      (try simp only [Act.put,sx])
      refine tk (i:=6) (oi:=⟨some 30,_,_,_,_,_⟩) (v:=?vf6) rfl (by kernel_rfl) (fun _ _ _ h=>h) (Or.inl ⟨by rfl,?hf6⟩) hHeld ?rf6
      case hf6=>(intro w hSw;(try dsimp only at hSw);go_simp;(try with_reducible rfl))
      (try simp only [Act.put,sx])
      refine tk (i:=7) (oi:=⟨some 31,_,_,_,_,_⟩) (v:=?vf7) rfl (by kernel_rfl) (fun _ _ _ h=>h) (Or.inl ⟨by rfl,?hf7⟩) hHeld ?rf7
      case hf7=>(intro w hSw;(try dsimp only at hSw);go_simp;(try with_reducible rfl))
      (try simp only [Act.put,sx])
      refine wpAnyH_ready (rs:=[8]) (by kernel_rfl) (by simp) ?_;refine AllReadyH.cons rfl (fun K hK=>?_) AllReadyH.nil;go_simp
      go_wp2_with (go_at_call 245;refine (refFine_at hf _ HWm.out HWn.out).mono ?_;rintro e w' ⟨rfl,hb⟩)
      have FF:=bx6 HBx HBz hb;clear hb;refine hK.out _ _ FF.out.2 (fun hHeld=>?_);clear hK K;refine tk (i:=9) (oi:=⟨some 33,_,_,_,_,_⟩) (v:=?vf9) rfl (by kernel_rfl) (fun _ _ _ h=>h) (Or.inl ⟨by rfl,?hf9⟩) hHeld ?rf9
      case hf9=>(intro w hSw;(try dsimp only at hSw);go_simp;(try with_reducible rfl))
      (try simp only [Act.put,sx])
      refine tk (i:=10) (oi:=⟨some 34,_,_,_,_,_⟩) (v:=?vf10) rfl (by kernel_rfl) (fun _ _ _ h=>h) (Or.inl ⟨by rfl,?hf10⟩) hHeld ?rf10
      case hf10=>(intro w hSw;(try dsimp only at hSw);go_simp;(try with_reducible rfl))
      (try simp only [Act.put,sx])
      refine tk (i:=11) (oi:=⟨some 35,_,_,_,_,_⟩) (v:=?vf11) rfl (by kernel_rfl) (fun _ _ _ h=>h) (Or.inl ⟨by rfl,?hf11⟩) hHeld ?rf11
      case hf11=>(intro w hSw;(try dsimp only at hSw);go_simp;(try with_reducible rfl))
      (try simp only [Act.put,sx])
      refine tk (i:=12) (oi:=⟨some 36,_,_,_,_,_⟩) (v:=?vf12) rfl (by kernel_rfl) (fun _ _ _ h=>h) (Or.inl ⟨by rfl,?hf12⟩) hHeld ?rf12
      case hf12=>(intro w hSw;(try dsimp only at hSw);go_simp;(try with_reducible rfl))
      (try simp only [Act.put,sx])
      refine tk (i:=13) (oi:=⟨some 37,_,_,_,_,_⟩) (v:=?vf13) rfl (by kernel_rfl) (fun _ _ _ h=>h) (Or.inl ⟨by rfl,?hf13⟩) hHeld ?rf13
      case hf13=>(intro w hSw;(try dsimp only at hSw);go_simp;(try with_reducible rfl))
      (try simp only [Act.put,sx])
      refine wpAnyH_ready (rs:=[14]) (by kernel_rfl) (by simp) ?_;refine AllReadyH.cons rfl (fun K hK=>?_) AllReadyH.nil;go_simp
      go_wp2_with (go_at_call 163;refine (stmtRef_at hR _).mono ?_;rintro e w' ⟨rfl,rfl⟩)
      refine hK.out _ _ hHeld (fun hHeld=>?_);clear hK K;refine tk (i:=15) (oi:=⟨some 39,_,_,_,_,_⟩) (v:=?vf15) rfl (by kernel_rfl) (fun _ _ _ h=>h) (Or.inl ⟨by rfl,?hf15⟩) hHeld ?rf15
      case hf15=>(intro w hSw;(try dsimp only at hSw);go_simp;(try with_reducible rfl))
      (try simp only [Act.put,sx])
      refine tk (i:=16) (oi:=⟨some 40,_,_,_,_,_⟩) (v:=?vf16) rfl (by kernel_rfl) (fun _ _ _ h=>h) (Or.inl ⟨by rfl,?hf16⟩) hHeld ?rf16
      case hf16=>(intro w hSw;(try dsimp only at hSw);go_simp;(try with_reducible rfl))
      (try simp only [Act.put,sx])
      refine tk (i:=17) (oi:=⟨some 41,_,_,_,_,_⟩) (v:=undef) rfl (by kernel_rfl) (fun _ _ _ h=>h) (Or.inr ⟨by rfl,rfl⟩) hHeld ?rf17
      (try simp only [Act.put,sx])
      refine tk (i:=18) (oi:=⟨some 42,_,_,_,_,_⟩) (v:=undef) rfl (by kernel_rfl) (fun _ _ _ h=>h) (Or.inr ⟨by rfl,rfl⟩) hHeld ?rf18
      (try simp only [Act.put,sx])
      refine tk (i:=19) (oi:=⟨some 43,_,_,_,_,_⟩) (v:=undef) rfl (by kernel_rfl) (fun _ _ _ h=>h) (Or.inr ⟨by rfl,rfl⟩) hHeld ?rf19
      (try simp only [Act.put,sx])
      refine tk (i:=20) (oi:=⟨some 44,_,_,_,_,_⟩) (v:=undef) rfl (by kernel_rfl) (fun _ _ _ h=>h) (Or.inr ⟨by rfl,rfl⟩) hHeld ?rf20
      (try simp only [Act.put,sx])
      refine tk (i:=21) (oi:=⟨some 45,_,_,_,_,_⟩) (v:=undef) rfl (by kernel_rfl) (fun _ _ _ h=>h) (Or.inr ⟨by rfl,rfl⟩) hHeld ?rf21
      (try simp only [Act.put,sx])
      refine tk (i:=22) (oi:=⟨some 46,_,_,_,_,_⟩) (v:=undef) rfl (by kernel_rfl) (fun _ _ _ h=>h) (Or.inr ⟨by rfl,rfl⟩) hHeld ?rf22
      (try simp only [Act.put,sx])
      refine tk (i:=23) (oi:=⟨some 47,_,_,_,_,_⟩) (v:=undef) rfl (by kernel_rfl) (fun _ _ _ h=>h) (Or.inr ⟨by rfl,rfl⟩) hHeld ?rf23
      (try simp only [Act.put,sx])
      refine tk (i:=24) (oi:=⟨some 48,_,_,_,_,_⟩) (v:=undef) rfl (by kernel_rfl) (fun _ _ _ h=>h) (Or.inr ⟨by rfl,rfl⟩) hHeld ?rf24
      (try simp only [Act.put,sx])
      refine tk (i:=25) (oi:=⟨some 49,_,_,_,_,_⟩) (v:=?vf25) rfl (by kernel_rfl) (fun _ _ _ h=>h) (Or.inl ⟨by rfl,?hf25⟩) hHeld ?rf25
      case hf25=>(intro w hSw;(try dsimp only at hSw);go_simp;(try with_reducible rfl))
      (try simp only [Act.put,sx])
      refine tk (i:=26) (oi:=⟨some 50,_,_,_,_,_⟩) (v:=?vf26) rfl (by kernel_rfl) (fun _ _ _ h=>h) (Or.inl ⟨by rfl,?hf26⟩) hHeld ?rf26
      case hf26=>(intro w hSw;(try dsimp only at hSw);go_simp;(try with_reducible rfl))
      (try simp only [Act.put,sx])
      refine tk (i:=27) (oi:=⟨some 51,_,_,_,_,_⟩) (v:=?vf27) rfl (by kernel_rfl) (fun _ _ _ h=>h) (Or.inl ⟨by rfl,?hf27⟩) hHeld ?rf27
      case hf27=>(intro w hSw;(try dsimp only at hSw);go_simp;(try with_reducible rfl))
      (try simp only [Act.put,sx])
      refine tk (i:=28) (oi:=⟨some 52,_,_,_,_,_⟩) (v:=?vf28) rfl (by kernel_rfl) (fun _ _ _ h=>h) (Or.inl ⟨by rfl,?hf28⟩) hHeld ?rf28
      case hf28=>(intro w hSw;(try dsimp only at hSw);go_simp;(try with_reducible rfl))
      (try simp only [Act.put,sx])
      refine tk (i:=29) (oi:=⟨some 53,_,_,_,_,_⟩) (v:=?vf29) rfl (by kernel_rfl) (fun _ _ _ h=>h) (Or.inl ⟨by rfl,?hf29⟩) hHeld ?rf29
      case hf29=>(intro w hSw;(try dsimp only at hSw);go_simp;(try with_reducible rfl))
      (try simp only [Act.put,sx])
      refine wpAnyH_ready (rs:=[30]) (by kernel_rfl) (by simp) ?_;refine AllReadyH.cons rfl (fun K hK=>?_) AllReadyH.nil;go_simp
      go_wp2_with (go_at_call 246;refine (stmtArgs_at hq _).mono ?_;rintro e w' ⟨rfl,rfl⟩)
      refine hK.out _ _ hHeld (fun hHeld=>?_);clear hK K;refine tk (i:=31) (oi:=⟨some 55,_,_,_,_,_⟩) (v:=?vf31) rfl (by kernel_rfl) (fun _ _ _ h=>h) (Or.inl ⟨by rfl,?hf31⟩) hHeld ?rf31
      case hf31=>(intro w hSw;(try dsimp only at hSw);go_simp;(try with_reducible rfl))
      (try simp only [Act.put,sx])
      refine tk (i:=32) (oi:=⟨some 56,_,_,_,_,_⟩) (v:=?vf32) rfl (by kernel_rfl) (fun _ _ _ h=>h) (Or.inl ⟨by rfl,?hf32⟩) hHeld ?rf32
      case hf32=>(intro w hSw;(try dsimp only at hSw);go_simp;(try with_reducible rfl))
      (try simp only [Act.put,sx])
      refine tk (i:=33) (oi:=⟨some 57,_,_,_,_,_⟩) (v:=?vf33) rfl (by kernel_rfl) (fun _ _ _ h=>h) (Or.inl ⟨by rfl,?hf33⟩) hHeld ?rf33
      case hf33=>(intro w hSw;(try dsimp only at hSw);go_simp;(try with_reducible rfl))
      (try simp only [Act.put,sx])
      refine tk (i:=34) (oi:=⟨some 58,_,_,_,_,_⟩) (v:=?vf34) rfl (by kernel_rfl) (fun _ _ _ h=>h) (Or.inl ⟨by rfl,?hf34⟩) hHeld ?rf34
      case hf34=>(intro w hSw;(try dsimp only at hSw);go_simp;(try with_reducible rfl))
      (try simp only [Act.put,sx])
      refine tk (i:=35) (oi:=⟨some 59,_,_,_,_,_⟩) (v:=?vf35) rfl (by kernel_rfl) (fun _ _ _ h=>h) (Or.inl ⟨by rfl,?hf35⟩) hHeld ?rf35
      case hf35=>(intro w hSw;(try dsimp only at hSw);go_simp;(try with_reducible rfl))
      (try simp only [Act.put,sx])
      refine tk (i:=36) (oi:=⟨some 60,_,_,_,_,_⟩) (v:=?vf36) rfl (by kernel_rfl) (fun _ _ _ h=>h) (Or.inl ⟨by rfl,?hf36⟩) hHeld ?rf36
      case hf36=>(intro w hSw;(try dsimp only at hSw);go_simp;(try with_reducible rfl))
      (try simp only [Act.put,sx])
      refine tk (i:=37) (oi:=⟨some 61,_,_,_,_,_⟩) (v:=?vf37) rfl (by kernel_rfl) (fun _ _ _ h=>h) (Or.inl ⟨by rfl,?hf37⟩) hHeld ?rf37
      case hf37=>(intro w hSw;(try dsimp only at hSw);go_simp;(try with_reducible rfl))
      (try simp only [Act.put,sx])
      refine wpAnyH_ready (rs:=[38]) (by kernel_rfl) (by simp) ?_;refine AllReadyH.cons rfl (fun K hK=>?_) AllReadyH.nil;go_simp
      go_wp2_with (go_at_call 246;refine (stmtArgs_at hq _).mono ?_;rintro e w' ⟨rfl,rfl⟩)
      refine hK.out _ _ hHeld (fun hHeld=>?_);clear hK K;refine tk (i:=39) (oi:=⟨some 63,_,_,_,_,_⟩) (v:=?vf39) rfl (by kernel_rfl) (fun _ _ _ h=>h) (Or.inl ⟨by rfl,?hf39⟩) hHeld ?rf39
      case hf39=>(intro w hSw;(try dsimp only at hSw);go_simp;(try with_reducible rfl))
      (try simp only [Act.put,sx])
      refine tk (i:=40) (oi:=⟨some 64,_,_,_,_,_⟩) (v:=?vf40) rfl (by kernel_rfl) (fun _ _ _ h=>h) (Or.inl ⟨by rfl,?hf40⟩) hHeld ?rf40
      case hf40=>(intro w hSw;(try dsimp only at hSw);go_simp;(try with_reducible rfl))
      (try simp only [Act.put,sx])
      refine tk (i:=41) (oi:=⟨some 65,_,_,_,_,_⟩) (v:=?vf41) rfl (by kernel_rfl) (fun _ _ _ h=>h) (Or.inl ⟨by rfl,?hf41⟩) hHeld ?rf41
      case hf41=>(intro w hSw;(try dsimp only at hSw);go_simp;(try with_reducible rfl))
      (try simp only [Act.put,sx])
      refine tk (i:=42) (oi:=⟨some 66,_,_,_,_,_⟩) (v:=?vf42) rfl (by kernel_rfl) (fun _ _ _ h=>h) (Or.inl ⟨by rfl,?hf42⟩) hHeld ?rf42
      case hf42=>(intro w hSw;(try dsimp only at hSw);go_simp;(try with_reducible rfl))
      (try simp only [Act.put,sx])
      refine tk (i:=43) (oi:=⟨some 67,_,_,_,_,_⟩) (v:=?vf43) rfl (by kernel_rfl) (fun _ _ _ h=>h) (Or.inl ⟨by rfl,?hf43⟩) hHeld ?rf43
      case hf43=>(intro w hSw;(try dsimp only at hSw);go_simp;(try with_reducible rfl))
      (try simp only [Act.put,sx])
      refine tk (i:=44) (oi:=⟨some 68,_,_,_,_,_⟩) (v:=?vf44) rfl (by kernel_rfl) (fun _ _ _ h=>h) (Or.inl ⟨by rfl,?hf44⟩) hHeld ?rf44
      case hf44=>(intro w hSw;(try dsimp only at hSw);go_simp;(try with_reducible rfl))
      (try simp only [Act.put,sx])
      refine tk (i:=45) (oi:=⟨some 69,_,_,_,_,_⟩) (v:=?vf45) rfl (by kernel_rfl) (fun _ _ _ h=>h) (Or.inl ⟨by rfl,?hf45⟩) hHeld ?rf45
      case hf45=>(intro w hSw;(try dsimp only at hSw);go_simp;(try with_reducible rfl))
      (try simp only [Act.put,sx])
      refine tk (i:=46) (oi:=⟨some 70,_,_,_,_,_⟩) (v:=?vf46) rfl (by kernel_rfl) (fun _ _ _ h=>h) (Or.inl ⟨by rfl,?hf46⟩) hHeld ?rf46
      case hf46=>(intro w hSw;(try dsimp only at hSw);go_simp;(try with_reducible rfl))
      (try simp only [Act.put,sx])
      refine tk (i:=47) (oi:=⟨some 71,_,_,_,_,_⟩) (v:=?vf47) rfl (by kernel_rfl) (fun _ _ _ h=>h) (Or.inl ⟨by rfl,?hf47⟩) hHeld ?rf47
      case hf47=>(intro w hSw;(try dsimp only at hSw);go_simp;(try with_reducible rfl))
      (try simp only [Act.put,sx])
      refine tk (i:=48) (oi:=⟨some 72,_,_,_,_,_⟩) (v:=?vf48) rfl (by kernel_rfl) (fun _ _ _ h=>h) (Or.inl ⟨by rfl,?hf48⟩) hHeld ?rf48
      case hf48=>(intro w hSw;(try dsimp only at hSw);go_simp;(try with_reducible rfl))
      (try simp only [Act.put,sx])
      refine tk (i:=49) (oi:=⟨some 73,_,_,_,_,_⟩) (v:=?vf49) rfl (by kernel_rfl) (fun _ _ _ h=>h) (Or.inl ⟨by rfl,?hf49⟩) hHeld ?rf49
      case hf49=>(intro w hSw;(try dsimp only at hSw);go_simp;(try with_reducible rfl))
      (try simp only [Act.put,sx])
      refine tk (i:=50) (oi:=⟨some 74,_,_,_,_,_⟩) (v:=?vf50) rfl (by kernel_rfl) (fun _ _ _ h=>h) (Or.inl ⟨by rfl,?hf50⟩) hHeld ?rf50
      case hf50=>(intro w hSw;(try dsimp only at hSw);go_simp;(try with_reducible rfl))
      (try simp only [Act.put,sx])
      refine tk (i:=51) (oi:=⟨some 75,_,_,_,_,_⟩) (v:=?vf51) rfl (by kernel_rfl) (fun _ _ _ h=>h) (Or.inl ⟨by rfl,?hf51⟩) hHeld ?rf51
      case hf51=>(intro w hSw;(try dsimp only at hSw);go_simp;(try with_reducible rfl))
      (try simp only [Act.put,sx])
      refine tk (i:=52) (oi:=⟨some 76,_,_,_,_,_⟩) (v:=?vf52) rfl (by kernel_rfl) (fun _ _ _ h=>h) (Or.inl ⟨by rfl,?hf52⟩) hHeld ?rf52
      case hf52=>(intro w hSw;(try dsimp only at hSw);go_simp;(try with_reducible rfl))
      (try simp only [Act.put,sx])
      refine tk (i:=53) (oi:=⟨some 77,_,_,_,_,_⟩) (v:=?vf53) rfl (by kernel_rfl) (fun _ _ _ h=>h) (Or.inl ⟨by rfl,?hf53⟩) hHeld ?rf53
      case hf53=>(intro w hSw;(try dsimp only at hSw);go_simp;(try with_reducible rfl))
      (try simp only [Act.put,sx])
      refine tk (i:=54) (oi:=⟨some 78,_,_,_,_,_⟩) (v:=?vf54) rfl (by kernel_rfl) (fun _ _ _ h=>h) (Or.inl ⟨by rfl,?hf54⟩) hHeld ?rf54
      case hf54=>(intro w hSw;(try dsimp only at hSw);go_simp;(try with_reducible rfl))
      (try simp only [Act.put,sx])
      refine tk (i:=55) (oi:=⟨some 79,_,_,_,_,_⟩) (v:=?vf55) rfl (by kernel_rfl) (fun _ _ _ h=>h) (Or.inl ⟨by rfl,?hf55⟩) hHeld ?rf55
      case hf55=>(intro w hSw;(try dsimp only at hSw);go_simp;(try with_reducible rfl))
      (try simp only [Act.put,sx])
      refine tk (i:=56) (oi:=⟨some 80,_,_,_,_,_⟩) (v:=?vf56) rfl (by kernel_rfl) (fun _ _ _ h=>h) (Or.inl ⟨by rfl,?hf56⟩) hHeld ?rf56
      case hf56=>(intro w hSw;(try dsimp only at hSw);go_simp;(try with_reducible rfl))
      (try simp only [Act.put,sx])
      refine tk (i:=57) (oi:=⟨some 81,_,_,_,_,_⟩) (v:=?vf57) rfl (by kernel_rfl) (fun _ _ _ h=>h) (Or.inl ⟨by rfl,?hf57⟩) hHeld ?rf57
      case hf57=>(intro w hSw;(try dsimp only at hSw);go_simp;(try with_reducible rfl))
      (try simp only [Act.put,sx])
      refine tk (i:=58) (oi:=⟨some 82,_,_,_,_,_⟩) (v:=?vf58) rfl (by kernel_rfl) (fun _ _ _ h=>h) (Or.inl ⟨by rfl,?hf58⟩) hHeld ?rf58
      case hf58=>(intro w hSw;(try dsimp only at hSw);go_simp;(try with_reducible rfl))
      (try simp only [Act.put,sx])
      refine tk (i:=59) (oi:=⟨some 83,_,_,_,_,_⟩) (v:=undef) rfl (by kernel_rfl) (fun _ _ _ h=>h) (Or.inr ⟨by rfl,rfl⟩) hHeld ?rf59
      (try simp only [Act.put,sx])
      refine tk (i:=60) (oi:=⟨some 84,_,_,_,_,_⟩) (v:=undef) rfl (by kernel_rfl) (fun _ _ _ h=>h) (Or.inr ⟨by rfl,rfl⟩) hHeld ?rf60
      (try simp only [Act.put,sx])
      refine tk (i:=61) (oi:=⟨some 85,_,_,_,_,_⟩) (v:=undef) rfl (by kernel_rfl) (fun _ _ _ h=>h) (Or.inr ⟨by rfl,rfl⟩) hHeld ?rf61
      (try simp only [Act.put,sx])
      refine tk (i:=62) (oi:=⟨some 86,_,_,_,_,_⟩) (v:=undef) rfl (by kernel_rfl) (fun _ _ _ h=>h) (Or.inr ⟨by rfl,rfl⟩) hHeld ?rf62
      (try simp only [Act.put,sx])
      refine tk (i:=63) (oi:=⟨some 87,_,_,_,_,_⟩) (v:=undef) rfl (by kernel_rfl) (fun _ _ _ h=>h) (Or.inr ⟨by rfl,rfl⟩) hHeld ?rf63
      (try simp only [Act.put,sx])
      refine tk (i:=64) (oi:=⟨some 88,_,_,_,_,_⟩) (v:=undef) rfl (by kernel_rfl) (fun _ _ _ h=>h) (Or.inr ⟨by rfl,rfl⟩) hHeld ?rf64
      (try simp only [Act.put,sx])
      refine tk (i:=65) (oi:=⟨some 89,_,_,_,_,_⟩) (v:=undef) rfl (by kernel_rfl) (fun _ _ _ h=>h) (Or.inr ⟨by rfl,rfl⟩) hHeld ?rf65
      (try simp only [Act.put,sx])
      refine tk (i:=66) (oi:=⟨some 90,_,_,_,_,_⟩) (v:=undef) rfl (by kernel_rfl) (fun _ _ _ h=>h) (Or.inr ⟨by rfl,rfl⟩) hHeld ?rf66
      (try simp only [Act.put,sx])
      refine tk (i:=67) (oi:=⟨some 91,_,_,_,_,_⟩) (v:=undef) rfl (by kernel_rfl) (fun _ _ _ h=>h) (Or.inr ⟨by rfl,rfl⟩) hHeld ?rf67
      (try simp only [Act.put,sx])
      refine tk (i:=68) (oi:=⟨some 92,_,_,_,_,_⟩) (v:=?vf68) rfl (by kernel_rfl) (fun _ _ _ h=>h) (Or.inl ⟨by rfl,?hf68⟩) hHeld ?rf68
      case hf68=>(intro w hSw;(try dsimp only at hSw);go_simp;(try with_reducible rfl))
      (try simp only [Act.put,sx])
      refine wpAnyH_done (by kernel_rfl) ?_ _;go_wp2_with fail;go_meet;exact ⟨by rw [HE.out],endB FF⟩
    | false=>
      have HE:Hid (C=decide (0<ot.length)):=by show _=_;rw [HC.out];simp [hR,hf,h0,hl,h4,h5,hb]
      refine wp_region_held_drew (S:=(fun W=>W.cell? ⟨w.heap.size,0,none⟩=some (.int .i64 op)/\W.cell? ⟨w.heap.size,1,none⟩=some (.string mod)/\W.cell? ⟨w.heap.size,2,none⟩=some (.string name)/\W.cell? ⟨w.heap.size,3,none⟩=some (.slice aa l.length cap)/\W.cell? ⟨w.heap.size,4,none⟩=some (.slice ab bd.length cab)/\W.cell? ⟨w.heap.size,5,none⟩=some (.slice ac ot.length cac))) (by kernel_rfl) ?_ (fun hHeld=>?_)
      . (try dsimp only);go_keep
      refine tk (i:=0) (oi:=⟨some 24,_,_,_,_,_⟩) (v:=?vg0) rfl (by kernel_rfl) (fun _ _ _ h=>h) (Or.inl ⟨by rfl,?hg0⟩) hHeld ?rg0
      case hg0=>(intro w hSw;(try dsimp only at hSw);go_simp;(try with_reducible rfl))
      (try simp only [Act.put,sx])
      refine tk (i:=1) (oi:=⟨some 25,_,_,_,_,_⟩) (v:=?vg1) rfl (by kernel_rfl) (fun _ _ _ h=>h) (Or.inl ⟨by rfl,?hg1⟩) hHeld ?rg1
      case hg1=>(intro w hSw;(try dsimp only at hSw);go_simp;(try with_reducible rfl))
      (try simp only [Act.put,sx])
      refine wpAnyH_ready (rs:=[2]) (by kernel_rfl) (by simp) ?_;refine AllReadyH.cons rfl (fun K hK=>?_) AllReadyH.nil;go_simp
      go_wp2_with (go_at_call 163;refine (stmtRef_at hR _).mono ?_;rintro e w' ⟨rfl,rfl⟩)
      refine hK.out _ _ hHeld (fun hHeld=>?_);clear hK K;refine tk (i:=3) (oi:=⟨some 27,_,_,_,_,_⟩) (v:=?vg3) rfl (by kernel_rfl) (fun _ _ _ h=>h) (Or.inl ⟨by rfl,?hg3⟩) hHeld ?rg3
      case hg3=>(intro w hSw;(try dsimp only at hSw);go_simp;(try with_reducible rfl))
      (try simp only [Act.put,sx])
      refine tk (i:=4) (oi:=⟨some 28,_,_,_,_,_⟩) (v:=?vg4) rfl (by kernel_rfl) (fun _ _ _ h=>h) (Or.inl ⟨by rfl,?hg4⟩) hHeld ?rg4
      case hg4=>(intro w hSw;(try dsimp only at hSw);go_simp;(try with_reducible rfl))
      (try simp only [Act.put,sx])
      refine tk (i:=5) (oi:=⟨some 29,_,_,_,_,_⟩) (v:=?vg5) rfl (by kernel_rfl) (fun _ _ _ h=>h) (Or.inl ⟨by rfl,?hg5⟩) hHeld ?rg5
      case hg5=>(intro w hSw;(try dsimp only at hSw);go_simp;(try with_reducible rfl))
      (try simp only [Act.put,sx])
      refine tk (i:=6) (oi:=⟨some 30,_,_,_,_,_⟩) (v:=?vg6) rfl (by kernel_rfl) (fun _ _ _ h=>h) (Or.inl ⟨by rfl,?hg6⟩) hHeld ?rg6
      case hg6=>(intro w hSw;(try dsimp only at hSw);go_simp;(try with_reducible rfl))
      (try simp only [Act.put,sx])
      refine tk (i:=7) (oi:=⟨some 31,_,_,_,_,_⟩) (v:=?vg7) rfl (by kernel_rfl) (fun _ _ _ h=>h) (Or.inl ⟨by rfl,?hg7⟩) hHeld ?rg7
      case hg7=>(intro w hSw;(try dsimp only at hSw);go_simp;(try with_reducible rfl))
      (try simp only [Act.put,sx])
      refine wpAnyH_ready (rs:=[8]) (by kernel_rfl) (by simp) ?_;refine AllReadyH.cons rfl (fun K hK=>?_) AllReadyH.nil;go_simp
      go_wp2_with (go_at_call 245;refine (refFine_at hf _ HWm.out HWn.out).mono ?_;rintro e w' ⟨rfl,hb⟩)
      have FF:=bx6 HBx HBz hb;clear hb;refine hK.out _ _ FF.out.2 (fun hHeld=>?_);clear hK K;refine tk (i:=9) (oi:=⟨some 33,_,_,_,_,_⟩) (v:=?vg9) rfl (by kernel_rfl) (fun _ _ _ h=>h) (Or.inl ⟨by rfl,?hg9⟩) hHeld ?rg9
      case hg9=>(intro w hSw;(try dsimp only at hSw);go_simp;(try with_reducible rfl))
      (try simp only [Act.put,sx])
      refine tk (i:=10) (oi:=⟨some 34,_,_,_,_,_⟩) (v:=?vg10) rfl (by kernel_rfl) (fun _ _ _ h=>h) (Or.inl ⟨by rfl,?hg10⟩) hHeld ?rg10
      case hg10=>(intro w hSw;(try dsimp only at hSw);go_simp;(try with_reducible rfl))
      (try simp only [Act.put,sx])
      refine tk (i:=11) (oi:=⟨some 35,_,_,_,_,_⟩) (v:=?vg11) rfl (by kernel_rfl) (fun _ _ _ h=>h) (Or.inl ⟨by rfl,?hg11⟩) hHeld ?rg11
      case hg11=>(intro w hSw;(try dsimp only at hSw);go_simp;(try with_reducible rfl))
      (try simp only [Act.put,sx])
      refine tk (i:=12) (oi:=⟨some 36,_,_,_,_,_⟩) (v:=?vg12) rfl (by kernel_rfl) (fun _ _ _ h=>h) (Or.inl ⟨by rfl,?hg12⟩) hHeld ?rg12
      case hg12=>(intro w hSw;(try dsimp only at hSw);go_simp;(try with_reducible rfl))
      (try simp only [Act.put,sx])
      refine tk (i:=13) (oi:=⟨some 37,_,_,_,_,_⟩) (v:=?vg13) rfl (by kernel_rfl) (fun _ _ _ h=>h) (Or.inl ⟨by rfl,?hg13⟩) hHeld ?rg13
      case hg13=>(intro w hSw;(try dsimp only at hSw);go_simp;(try with_reducible rfl))
      (try simp only [Act.put,sx])
      refine wpAnyH_ready (rs:=[14]) (by kernel_rfl) (by simp) ?_;refine AllReadyH.cons rfl (fun K hK=>?_) AllReadyH.nil;go_simp
      go_wp2_with (go_at_call 163;refine (stmtRef_at hR _).mono ?_;rintro e w' ⟨rfl,rfl⟩)
      refine hK.out _ _ hHeld (fun hHeld=>?_);clear hK K;refine tk (i:=15) (oi:=⟨some 39,_,_,_,_,_⟩) (v:=?vg15) rfl (by kernel_rfl) (fun _ _ _ h=>h) (Or.inl ⟨by rfl,?hg15⟩) hHeld ?rg15
      case hg15=>(intro w hSw;(try dsimp only at hSw);go_simp;(try with_reducible rfl))
      (try simp only [Act.put,sx])
      refine tk (i:=16) (oi:=⟨some 40,_,_,_,_,_⟩) (v:=?vg16) rfl (by kernel_rfl) (fun _ _ _ h=>h) (Or.inl ⟨by rfl,?hg16⟩) hHeld ?rg16
      case hg16=>(intro w hSw;(try dsimp only at hSw);go_simp;(try with_reducible rfl))
      (try simp only [Act.put,sx])
      refine tk (i:=17) (oi:=⟨some 41,_,_,_,_,_⟩) (v:=undef) rfl (by kernel_rfl) (fun _ _ _ h=>h) (Or.inr ⟨by rfl,rfl⟩) hHeld ?rg17
      (try simp only [Act.put,sx])
      refine tk (i:=18) (oi:=⟨some 42,_,_,_,_,_⟩) (v:=undef) rfl (by kernel_rfl) (fun _ _ _ h=>h) (Or.inr ⟨by rfl,rfl⟩) hHeld ?rg18
      (try simp only [Act.put,sx])
      refine tk (i:=19) (oi:=⟨some 43,_,_,_,_,_⟩) (v:=undef) rfl (by kernel_rfl) (fun _ _ _ h=>h) (Or.inr ⟨by rfl,rfl⟩) hHeld ?rg19
      (try simp only [Act.put,sx])
      refine tk (i:=20) (oi:=⟨some 44,_,_,_,_,_⟩) (v:=undef) rfl (by kernel_rfl) (fun _ _ _ h=>h) (Or.inr ⟨by rfl,rfl⟩) hHeld ?rg20
      (try simp only [Act.put,sx])
      refine tk (i:=21) (oi:=⟨some 45,_,_,_,_,_⟩) (v:=undef) rfl (by kernel_rfl) (fun _ _ _ h=>h) (Or.inr ⟨by rfl,rfl⟩) hHeld ?rg21
      (try simp only [Act.put,sx])
      refine tk (i:=22) (oi:=⟨some 46,_,_,_,_,_⟩) (v:=undef) rfl (by kernel_rfl) (fun _ _ _ h=>h) (Or.inr ⟨by rfl,rfl⟩) hHeld ?rg22
      (try simp only [Act.put,sx])
      refine tk (i:=23) (oi:=⟨some 47,_,_,_,_,_⟩) (v:=undef) rfl (by kernel_rfl) (fun _ _ _ h=>h) (Or.inr ⟨by rfl,rfl⟩) hHeld ?rg23
      (try simp only [Act.put,sx])
      refine tk (i:=24) (oi:=⟨some 48,_,_,_,_,_⟩) (v:=undef) rfl (by kernel_rfl) (fun _ _ _ h=>h) (Or.inr ⟨by rfl,rfl⟩) hHeld ?rg24
      (try simp only [Act.put,sx])
      refine tk (i:=25) (oi:=⟨some 49,_,_,_,_,_⟩) (v:=?vg25) rfl (by kernel_rfl) (fun _ _ _ h=>h) (Or.inl ⟨by rfl,?hg25⟩) hHeld ?rg25
      case hg25=>(intro w hSw;(try dsimp only at hSw);go_simp;(try with_reducible rfl))
      (try simp only [Act.put,sx])
      refine tk (i:=26) (oi:=⟨some 50,_,_,_,_,_⟩) (v:=?vg26) rfl (by kernel_rfl) (fun _ _ _ h=>h) (Or.inl ⟨by rfl,?hg26⟩) hHeld ?rg26
      case hg26=>(intro w hSw;(try dsimp only at hSw);go_simp;(try with_reducible rfl))
      (try simp only [Act.put,sx])
      refine tk (i:=27) (oi:=⟨some 51,_,_,_,_,_⟩) (v:=?vg27) rfl (by kernel_rfl) (fun _ _ _ h=>h) (Or.inl ⟨by rfl,?hg27⟩) hHeld ?rg27
      case hg27=>(intro w hSw;(try dsimp only at hSw);go_simp;(try with_reducible rfl))
      (try simp only [Act.put,sx])
      refine tk (i:=28) (oi:=⟨some 52,_,_,_,_,_⟩) (v:=?vg28) rfl (by kernel_rfl) (fun _ _ _ h=>h) (Or.inl ⟨by rfl,?hg28⟩) hHeld ?rg28
      case hg28=>(intro w hSw;(try dsimp only at hSw);go_simp;(try with_reducible rfl))
      (try simp only [Act.put,sx])
      refine tk (i:=29) (oi:=⟨some 53,_,_,_,_,_⟩) (v:=?vg29) rfl (by kernel_rfl) (fun _ _ _ h=>h) (Or.inl ⟨by rfl,?hg29⟩) hHeld ?rg29
      case hg29=>(intro w hSw;(try dsimp only at hSw);go_simp;(try with_reducible rfl))
      (try simp only [Act.put,sx])
      refine wpAnyH_ready (rs:=[30]) (by kernel_rfl) (by simp) ?_;refine AllReadyH.cons rfl (fun K hK=>?_) AllReadyH.nil;go_simp
      go_wp2_with (go_at_call 246;refine (stmtArgs_at hq _).mono ?_;rintro e w' ⟨rfl,rfl⟩)
      refine hK.out _ _ hHeld (fun hHeld=>?_);clear hK K;refine tk (i:=31) (oi:=⟨some 55,_,_,_,_,_⟩) (v:=?vg31) rfl (by kernel_rfl) (fun _ _ _ h=>h) (Or.inl ⟨by rfl,?hg31⟩) hHeld ?rg31
      case hg31=>(intro w hSw;(try dsimp only at hSw);go_simp;(try with_reducible rfl))
      (try simp only [Act.put,sx])
      refine tk (i:=32) (oi:=⟨some 56,_,_,_,_,_⟩) (v:=?vg32) rfl (by kernel_rfl) (fun _ _ _ h=>h) (Or.inl ⟨by rfl,?hg32⟩) hHeld ?rg32
      case hg32=>(intro w hSw;(try dsimp only at hSw);go_simp;(try with_reducible rfl))
      (try simp only [Act.put,sx])
      refine tk (i:=33) (oi:=⟨some 57,_,_,_,_,_⟩) (v:=?vg33) rfl (by kernel_rfl) (fun _ _ _ h=>h) (Or.inl ⟨by rfl,?hg33⟩) hHeld ?rg33
      case hg33=>(intro w hSw;(try dsimp only at hSw);go_simp;(try with_reducible rfl))
      (try simp only [Act.put,sx])
      refine tk (i:=34) (oi:=⟨some 58,_,_,_,_,_⟩) (v:=?vg34) rfl (by kernel_rfl) (fun _ _ _ h=>h) (Or.inl ⟨by rfl,?hg34⟩) hHeld ?rg34
      case hg34=>(intro w hSw;(try dsimp only at hSw);go_simp;(try with_reducible rfl))
      (try simp only [Act.put,sx])
      refine tk (i:=35) (oi:=⟨some 59,_,_,_,_,_⟩) (v:=?vg35) rfl (by kernel_rfl) (fun _ _ _ h=>h) (Or.inl ⟨by rfl,?hg35⟩) hHeld ?rg35
      case hg35=>(intro w hSw;(try dsimp only at hSw);go_simp;(try with_reducible rfl))
      (try simp only [Act.put,sx])
      refine tk (i:=36) (oi:=⟨some 60,_,_,_,_,_⟩) (v:=?vg36) rfl (by kernel_rfl) (fun _ _ _ h=>h) (Or.inl ⟨by rfl,?hg36⟩) hHeld ?rg36
      case hg36=>(intro w hSw;(try dsimp only at hSw);go_simp;(try with_reducible rfl))
      (try simp only [Act.put,sx])
      refine tk (i:=37) (oi:=⟨some 61,_,_,_,_,_⟩) (v:=?vg37) rfl (by kernel_rfl) (fun _ _ _ h=>h) (Or.inl ⟨by rfl,?hg37⟩) hHeld ?rg37
      case hg37=>(intro w hSw;(try dsimp only at hSw);go_simp;(try with_reducible rfl))
      (try simp only [Act.put,sx])
      refine wpAnyH_ready (rs:=[38]) (by kernel_rfl) (by simp) ?_;refine AllReadyH.cons rfl (fun K hK=>?_) AllReadyH.nil;go_simp
      go_wp2_with (go_at_call 246;refine (stmtArgs_at hq _).mono ?_;rintro e w' ⟨rfl,rfl⟩)
      refine hK.out _ _ hHeld (fun hHeld=>?_);clear hK K;refine tk (i:=39) (oi:=⟨some 63,_,_,_,_,_⟩) (v:=?vg39) rfl (by kernel_rfl) (fun _ _ _ h=>h) (Or.inl ⟨by rfl,?hg39⟩) hHeld ?rg39
      case hg39=>(intro w hSw;(try dsimp only at hSw);go_simp;(try with_reducible rfl))
      (try simp only [Act.put,sx])
      refine tk (i:=40) (oi:=⟨some 64,_,_,_,_,_⟩) (v:=?vg40) rfl (by kernel_rfl) (fun _ _ _ h=>h) (Or.inl ⟨by rfl,?hg40⟩) hHeld ?rg40
      case hg40=>(intro w hSw;(try dsimp only at hSw);go_simp;(try with_reducible rfl))
      (try simp only [Act.put,sx])
      refine tk (i:=41) (oi:=⟨some 65,_,_,_,_,_⟩) (v:=?vg41) rfl (by kernel_rfl) (fun _ _ _ h=>h) (Or.inl ⟨by rfl,?hg41⟩) hHeld ?rg41
      case hg41=>(intro w hSw;(try dsimp only at hSw);go_simp;(try with_reducible rfl))
      (try simp only [Act.put,sx])
      refine tk (i:=42) (oi:=⟨some 66,_,_,_,_,_⟩) (v:=?vg42) rfl (by kernel_rfl) (fun _ _ _ h=>h) (Or.inl ⟨by rfl,?hg42⟩) hHeld ?rg42
      case hg42=>(intro w hSw;(try dsimp only at hSw);go_simp;(try with_reducible rfl))
      (try simp only [Act.put,sx])
      refine tk (i:=43) (oi:=⟨some 67,_,_,_,_,_⟩) (v:=?vg43) rfl (by kernel_rfl) (fun _ _ _ h=>h) (Or.inl ⟨by rfl,?hg43⟩) hHeld ?rg43
      case hg43=>(intro w hSw;(try dsimp only at hSw);go_simp;(try with_reducible rfl))
      (try simp only [Act.put,sx])
      refine tk (i:=44) (oi:=⟨some 68,_,_,_,_,_⟩) (v:=?vg44) rfl (by kernel_rfl) (fun _ _ _ h=>h) (Or.inl ⟨by rfl,?hg44⟩) hHeld ?rg44
      case hg44=>(intro w hSw;(try dsimp only at hSw);go_simp;(try with_reducible rfl))
      (try simp only [Act.put,sx])
      refine tk (i:=45) (oi:=⟨some 69,_,_,_,_,_⟩) (v:=?vg45) rfl (by kernel_rfl) (fun _ _ _ h=>h) (Or.inl ⟨by rfl,?hg45⟩) hHeld ?rg45
      case hg45=>(intro w hSw;(try dsimp only at hSw);go_simp;(try with_reducible rfl))
      (try simp only [Act.put,sx])
      refine tk (i:=46) (oi:=⟨some 70,_,_,_,_,_⟩) (v:=?vg46) rfl (by kernel_rfl) (fun _ _ _ h=>h) (Or.inl ⟨by rfl,?hg46⟩) hHeld ?rg46
      case hg46=>(intro w hSw;(try dsimp only at hSw);go_simp;(try with_reducible rfl))
      (try simp only [Act.put,sx])
      refine tk (i:=47) (oi:=⟨some 71,_,_,_,_,_⟩) (v:=?vg47) rfl (by kernel_rfl) (fun _ _ _ h=>h) (Or.inl ⟨by rfl,?hg47⟩) hHeld ?rg47
      case hg47=>(intro w hSw;(try dsimp only at hSw);go_simp;(try with_reducible rfl))
      (try simp only [Act.put,sx])
      refine tk (i:=48) (oi:=⟨some 72,_,_,_,_,_⟩) (v:=?vg48) rfl (by kernel_rfl) (fun _ _ _ h=>h) (Or.inl ⟨by rfl,?hg48⟩) hHeld ?rg48
      case hg48=>(intro w hSw;(try dsimp only at hSw);go_simp;(try with_reducible rfl))
      (try simp only [Act.put,sx])
      refine tk (i:=49) (oi:=⟨some 73,_,_,_,_,_⟩) (v:=?vg49) rfl (by kernel_rfl) (fun _ _ _ h=>h) (Or.inl ⟨by rfl,?hg49⟩) hHeld ?rg49
      case hg49=>(intro w hSw;(try dsimp only at hSw);go_simp;(try with_reducible rfl))
      (try simp only [Act.put,sx])
      refine tk (i:=50) (oi:=⟨some 74,_,_,_,_,_⟩) (v:=?vg50) rfl (by kernel_rfl) (fun _ _ _ h=>h) (Or.inl ⟨by rfl,?hg50⟩) hHeld ?rg50
      case hg50=>(intro w hSw;(try dsimp only at hSw);go_simp;(try with_reducible rfl))
      (try simp only [Act.put,sx])
      refine tk (i:=51) (oi:=⟨some 75,_,_,_,_,_⟩) (v:=?vg51) rfl (by kernel_rfl) (fun _ _ _ h=>h) (Or.inl ⟨by rfl,?hg51⟩) hHeld ?rg51
      case hg51=>(intro w hSw;(try dsimp only at hSw);go_simp;(try with_reducible rfl))
      (try simp only [Act.put,sx])
      refine tk (i:=52) (oi:=⟨some 76,_,_,_,_,_⟩) (v:=?vg52) rfl (by kernel_rfl) (fun _ _ _ h=>h) (Or.inl ⟨by rfl,?hg52⟩) hHeld ?rg52
      case hg52=>(intro w hSw;(try dsimp only at hSw);go_simp;(try with_reducible rfl))
      (try simp only [Act.put,sx])
      refine tk (i:=53) (oi:=⟨some 77,_,_,_,_,_⟩) (v:=?vg53) rfl (by kernel_rfl) (fun _ _ _ h=>h) (Or.inl ⟨by rfl,?hg53⟩) hHeld ?rg53
      case hg53=>(intro w hSw;(try dsimp only at hSw);go_simp;(try with_reducible rfl))
      (try simp only [Act.put,sx])
      refine tk (i:=54) (oi:=⟨some 78,_,_,_,_,_⟩) (v:=?vg54) rfl (by kernel_rfl) (fun _ _ _ h=>h) (Or.inl ⟨by rfl,?hg54⟩) hHeld ?rg54
      case hg54=>(intro w hSw;(try dsimp only at hSw);go_simp;(try with_reducible rfl))
      (try simp only [Act.put,sx])
      refine tk (i:=55) (oi:=⟨some 79,_,_,_,_,_⟩) (v:=?vg55) rfl (by kernel_rfl) (fun _ _ _ h=>h) (Or.inl ⟨by rfl,?hg55⟩) hHeld ?rg55
      case hg55=>(intro w hSw;(try dsimp only at hSw);go_simp;(try with_reducible rfl))
      (try simp only [Act.put,sx])
      refine tk (i:=56) (oi:=⟨some 80,_,_,_,_,_⟩) (v:=?vg56) rfl (by kernel_rfl) (fun _ _ _ h=>h) (Or.inl ⟨by rfl,?hg56⟩) hHeld ?rg56
      case hg56=>(intro w hSw;(try dsimp only at hSw);go_simp;(try with_reducible rfl))
      (try simp only [Act.put,sx])
      refine tk (i:=57) (oi:=⟨some 81,_,_,_,_,_⟩) (v:=?vg57) rfl (by kernel_rfl) (fun _ _ _ h=>h) (Or.inl ⟨by rfl,?hg57⟩) hHeld ?rg57
      case hg57=>(intro w hSw;(try dsimp only at hSw);go_simp;(try with_reducible rfl))
      (try simp only [Act.put,sx])
      refine tk (i:=58) (oi:=⟨some 82,_,_,_,_,_⟩) (v:=?vg58) rfl (by kernel_rfl) (fun _ _ _ h=>h) (Or.inl ⟨by rfl,?hg58⟩) hHeld ?rg58
      case hg58=>(intro w hSw;(try dsimp only at hSw);go_simp;(try with_reducible rfl))
      (try simp only [Act.put,sx])
      refine tk (i:=59) (oi:=⟨some 83,_,_,_,_,_⟩) (v:=?vg59) rfl (by kernel_rfl) (fun _ _ _ h=>h) (Or.inl ⟨by rfl,?hg59⟩) hHeld ?rg59
      case hg59=>(intro w hSw;(try dsimp only at hSw);go_simp;(try with_reducible rfl))
      (try simp only [Act.put,sx])
      refine tk (i:=60) (oi:=⟨some 84,_,_,_,_,_⟩) (v:=?vg60) rfl (by kernel_rfl) (fun _ _ _ h=>h) (Or.inl ⟨by rfl,?hg60⟩) hHeld ?rg60
      case hg60=>(intro w hSw;(try dsimp only at hSw);go_simp;(try with_reducible rfl))
      (try simp only [Act.put,sx])
      refine tk (i:=61) (oi:=⟨some 85,_,_,_,_,_⟩) (v:=?vg61) rfl (by kernel_rfl) (fun _ _ _ h=>h) (Or.inl ⟨by rfl,?hg61⟩) hHeld ?rg61
      case hg61=>(intro w hSw;(try dsimp only at hSw);go_simp;(try with_reducible rfl))
      (try simp only [Act.put,sx])
      refine tk (i:=62) (oi:=⟨some 86,_,_,_,_,_⟩) (v:=?vg62) rfl (by kernel_rfl) (fun _ _ _ h=>h) (Or.inl ⟨by rfl,?hg62⟩) hHeld ?rg62
      case hg62=>(intro w hSw;(try dsimp only at hSw);go_simp;(try with_reducible rfl))
      (try simp only [Act.put,sx])
      refine tk (i:=63) (oi:=⟨some 87,_,_,_,_,_⟩) (v:=?vg63) rfl (by kernel_rfl) (fun _ _ _ h=>h) (Or.inl ⟨by rfl,?hg63⟩) hHeld ?rg63
      case hg63=>(intro w hSw;(try dsimp only at hSw);go_simp;(try with_reducible rfl))
      (try simp only [Act.put,sx])
      refine tk (i:=64) (oi:=⟨some 88,_,_,_,_,_⟩) (v:=?vg64) rfl (by kernel_rfl) (fun _ _ _ h=>h) (Or.inl ⟨by rfl,?hg64⟩) hHeld ?rg64
      case hg64=>(intro w hSw;(try dsimp only at hSw);go_simp;(try with_reducible rfl))
      (try simp only [Act.put,sx])
      refine tk (i:=65) (oi:=⟨some 89,_,_,_,_,_⟩) (v:=?vg65) rfl (by kernel_rfl) (fun _ _ _ h=>h) (Or.inl ⟨by rfl,?hg65⟩) hHeld ?rg65
      case hg65=>(intro w hSw;(try dsimp only at hSw);go_simp;(try with_reducible rfl))
      (try simp only [Act.put,sx])
      refine tk (i:=66) (oi:=⟨some 90,_,_,_,_,_⟩) (v:=?vg66) rfl (by kernel_rfl) (fun _ _ _ h=>h) (Or.inl ⟨by rfl,?hg66⟩) hHeld ?rg66
      case hg66=>(intro w hSw;(try dsimp only at hSw);go_simp;(try with_reducible rfl))
      (try simp only [Act.put,sx])
      refine tk (i:=67) (oi:=⟨some 91,_,_,_,_,_⟩) (v:=?vg67) rfl (by kernel_rfl) (fun _ _ _ h=>h) (Or.inl ⟨by rfl,?hg67⟩) hHeld ?rg67
      case hg67=>(intro w hSw;(try dsimp only at hSw);go_simp;(try with_reducible rfl))
      (try simp only [Act.put,sx])
      refine tk (i:=68) (oi:=⟨some 92,_,_,_,_,_⟩) (v:=?vg68) rfl (by kernel_rfl) (fun _ _ _ h=>h) (Or.inl ⟨by rfl,?hg68⟩) hHeld ?rg68
      case hg68=>(intro w hSw;(try dsimp only at hSw);go_simp;(try with_reducible rfl))
      (try simp only [Act.put,sx])
      refine wpAnyH_done (by kernel_rfl) ?_ _;go_wp2_with fail;go_meet;exact ⟨by rw [HE.out],endB FF⟩
 case rest =>
  obtain ⟨rfl,HBc⟩:=hcut;have HB0':Hid (Below w.heap.size w wc):=thenB HB0.out HBc.out;have HBx':Hid (Blk wc w.heap.size [.int .i64 op,.string mod,.string name,.slice aa l.length cap,.slice ab bd.length cab,.slice ac ot.length cac]):=HBx.out.later HBc.out;clear HB0 HBx HBc HC;have HB0:=HB0';have HBx:=HBx';clear HB0' HBx';obtain ⟨x0,x1,x2,x3,x4,x5,xz⟩:=HBx.out.c6;clear x0 x1 x2 x4 x5
  cases hCb:C with
  | true=>
    subst hCb;go_wp2_with fail;go_ret;exact ⟨ret_bool (HR.out rfl),HB0.out⟩
  | false =>
    subst hCb;go_wp2_with fail
    go_loopw [7] (fun i wr=>∃ j:Nat,j<=l.length/\i = .int .i64 j/\(l.take j).any (eL 3 6)=false/\Below w.heap.size w wr/\Blk wr w.heap.size [.int .i64 op,.string mod,.string name,.slice aa l.length cap,.slice ab bd.length cab,.slice ac ot.length cac]) (fun i _=>l.length - (intOf i).toNat)
    case atStart=>exact ⟨0,Nat.zero_le _,rfl,rfl,HB0.out,HBx.out⟩
    case round =>
     obtain ⟨j,hj,rfl,hall,hb,hB⟩:=hrel;clear HBx HB0;clear x3 xz;obtain ⟨q0,q1,q2,q3,q4,q5,qz⟩:=hB.c6;clear q1 q2;have HB:Hid (Blk wr w.heap.size [.int .i64 op,.string mod,.string name,.slice aa l.length cap,.slice ab bd.length cab,.slice ac ot.length cac]):=hB;have HA:Hid ((l.take j).any (eL 3 6)=false):=hall;clear hall hB
     by_cases hlt:j<l.length
     . obtain ⟨b,off,a2,cp,rfl,hx⟩:=(HD.out.later hb).ex j hlt
       have hc0:=hx.c0;have hc1:=hx.c1;have hc2:=hx.c2;have hc3:=hx.c3;have hc4:=hx.c4;have hlb:=hx.lt;have HX:Hid (ExAt wr A b (off+j*5) l[j] a2 cp):=hx;clear hx;go_wp2_with fail;refine (exprLook_any A 6 (by omega) 3 (by omega) l[j] a2 cp 1 _ (by omega) HX.out.args HX.out.wm HX.out.wna).mono ?_
       cases hr:eL 3 6 l[j] with
       | true=>
         have HF:Hid (l.any (eL 3 6)=true):=any_at l _ j hlt hr;rintro e w3 ⟨rfl,hb3⟩;go_wp2_with fail;go_ret;exact ⟨ret_bool (HR.out (by rw [HF.out];simp)),thenB hb hb3⟩
       | false=>
         have HT:Hid ((l.take (j+1)).any (eL 3 6)=false):=by
          show _=_
          rw [any_snoc l _ j hlt,HA.out,hr];rfl
         rintro e w3 ⟨rfl,hb3⟩;go_wp2_with fail;go_roundw
         case rel=>exact ⟨j+1,by omega,by go_num,HT.out,thenB hb hb3,HB.out.later hb3⟩
         case measure=>simp [intOf];omega
     . have HT : Hid (l.any (eL 3 6)=false):=any_end HA.out hlt
       have HS:Hid (∀ {b:Bool},(((op == 4||op == 5)||decide (0<bd.length))&&bL 3 k bd||(decide (0<ot.length)&&bL 3 k ot))=b->b=sL 3 k (St.mk op mod name l bd ot)):=fun h=>HR.out (by rw [HT.out,Bool.false_or,Bool.false_or];exact h)
       clear HR HT HA HD;have HDb':Hid (DAt wr A ab bd.length (stsD bd)):=HDb.out.later hb;have HDo':Hid (DAt wr A ac ot.length (stsD ot)):=HDo.out.later hb;clear HDb HDo
       cases h4:(op == 4) with
       | true=>
         go_wp2_with fail;refine (HI.out bd ab cab _ HDb'.out).mono ?_
         cases hr1:bL 3 k bd with
         | true=>
           rintro e w4 ⟨rfl,c1⟩;go_wp2_with fail;go_ret;exact ⟨ret_bool (HS.out (by simp [hr1,h4])),thenB hb c1⟩
         | false=>
           rintro e w4 ⟨rfl,c1⟩;clear q0 q3 q4 q5 qz;obtain ⟨q0,q1,q2,q3,q4,q5,qz⟩:=(HB.out.later c1).c6;clear q0 q1 q2 q3 q4
           by_cases ho:0<ot.length
           . go_wp2_with fail
             refine (HI.out ot ac cac _ (HDo'.out.later c1)).mono ?_
             cases hr2:bL 3 k ot with
             | true=>
               rintro e w5 ⟨rfl,c2⟩;go_wp2_with fail;go_ret;exact ⟨ret_bool (HS.out (by simp [hr2,ho])),thenB (thenB hb c1) c2⟩
             | false=>
               rintro e w5 ⟨rfl,c2⟩;go_wp2_with fail;go_ret;exact ⟨ret_bool (HS.out (by simp [hr2,hr1])),thenB (thenB hb c1) c2⟩
           . go_wp2_with fail
             go_ret;exact ⟨ret_bool (HS.out (by simp [ho,hr1])),(thenB hb c1)⟩
       | false =>
         cases h5:(op == 5) with
         | true=>
           go_wp2_with fail;refine (HI.out bd ab cab _ HDb'.out).mono ?_
           cases hr1:bL 3 k bd with
           | true=>
             rintro e w4 ⟨rfl,c1⟩;go_wp2_with fail;go_ret;exact ⟨ret_bool (HS.out (by simp [hr1,h4,h5])),thenB hb c1⟩
           | false=>
             rintro e w4 ⟨rfl,c1⟩;clear q0 q3 q4 q5 qz;obtain ⟨q0,q1,q2,q3,q4,q5,qz⟩:=(HB.out.later c1).c6;clear q0 q1 q2 q3 q4
             by_cases ho:0<ot.length
             . go_wp2_with fail
               refine (HI.out ot ac cac _ (HDo'.out.later c1)).mono ?_
               cases hr2:bL 3 k ot with
               | true=>
                 rintro e w5 ⟨rfl,c2⟩;go_wp2_with fail;go_ret;exact ⟨ret_bool (HS.out (by simp [hr2,ho])),thenB (thenB hb c1) c2⟩
               | false=>
                 rintro e w5 ⟨rfl,c2⟩;go_wp2_with fail;go_ret;exact ⟨ret_bool (HS.out (by simp [hr2,hr1])),thenB (thenB hb c1) c2⟩
             . go_wp2_with fail
               go_ret;exact ⟨ret_bool (HS.out (by simp [ho,hr1])),(thenB hb c1)⟩
         | false =>
           by_cases hb0:0<bd.length
           . skip
             go_wp2_with fail;refine (HI.out bd ab cab _ HDb'.out).mono ?_
             cases hr1:bL 3 k bd with
             | true=>
               rintro e w4 ⟨rfl,c1⟩;go_wp2_with fail;go_ret;exact ⟨ret_bool (HS.out (by simp [hr1,h4,h5,hb0])),thenB hb c1⟩
             | false=>
               rintro e w4 ⟨rfl,c1⟩;clear q0 q3 q4 q5 qz;obtain ⟨q0,q1,q2,q3,q4,q5,qz⟩:=(HB.out.later c1).c6;clear q0 q1 q2 q3 q4
               by_cases ho:0<ot.length
               . go_wp2_with fail
                 refine (HI.out ot ac cac _ (HDo'.out.later c1)).mono ?_
                 cases hr2:bL 3 k ot with
                 | true=>
                   rintro e w5 ⟨rfl,c2⟩;go_wp2_with fail;go_ret;exact ⟨ret_bool (HS.out (by simp [hr2,ho])),thenB (thenB hb c1) c2⟩
                 | false=>
                   rintro e w5 ⟨rfl,c2⟩;go_wp2_with fail;go_ret;exact ⟨ret_bool (HS.out (by simp [hr2,hr1])),thenB (thenB hb c1) c2⟩
               . go_wp2_with fail
                 go_ret;exact ⟨ret_bool (HS.out (by simp [ho,hr1])),(thenB hb c1)⟩
           . skip
             by_cases ho:0<ot.length
             . go_wp2_with fail
               refine (HI.out ot ac cac _ HDo'.out).mono ?_
               cases hr2:bL 3 k ot with
               | true=>
                 rintro e w5 ⟨rfl,c2⟩;go_wp2_with fail;go_ret;exact ⟨ret_bool (HS.out (by simp [hr2,ho])),thenB hb c2⟩
               | false=>
                 rintro e w5 ⟨rfl,c2⟩;go_wp2_with fail;go_ret;exact ⟨ret_bool (HS.out (by simp [hr2,h4,h5,hb0])),thenB hb c2⟩
             . go_wp2_with fail
               go_ret;exact ⟨ret_bool (HS.out (by simp [ho,h4,h5,hb0])),hb⟩
end Go.Proofs.YtndkhgakfodldaaGreatDoor
