/-
  stmtLook, level 3: a name that is none.
-/
import Derived.Test.YtndkhgakfodldaaGreatDoorRc
namespace Go.Proofs.YtndkhgakfodldaaGreatDoor
set_option maxRecDepth 100000
set_option maxHeartbeats 8000000
open Go.RowKit Go.Maps
theorem stmtStep3c (A:Nat->Prop) (k:Nat) (op:Int) (mod name:ByteArray) (l:List Ex) (bd ot:List St) (aa ab ac:Option Addr) (cap cab cac:Nat) (deep:Int) (w:World) (hbd:l.length<=17592186044416) (hd1:1<=deep) (hd6:deep<=6)
 (HI:Hid (∀ (l:List St) (a:Option Addr) (cap:Nat) (w:World),DAt w A a l.length (stsD l)->Calls Tryz.prog 156 #[.slice a l.length cap,.int .i64 3,.int .i64 (deep+1)] w fun e w'=>e = .returned (.bool (bL 3 k l))/\Below w.heap.size w w'))
 (HD:Hid (DAt w A aa l.length (exsD l))) (HDb:Hid (DAt w A ab bd.length (stsD bd))) (HDo:Hid (DAt w A ac ot.length (stsD ot))) (HWm:Hid (mod.size<=maxLen)) (HWn:Hid (name.size<=maxLen))
 (hR:inB op 1 3=true) (hf:fineB mod name=false) :
 Calls Tryz.prog 191 #[.agg #[.int .i64 op,.string mod,.string name,.slice aa l.length cap,.slice ab bd.length cab,.slice ac ot.length cac],.int .i64 3,.int .i64 deep] w fun e w'=>e = .returned (.bool (sL 3 k (St.mk op mod name l bd ot)))/\Below w.heap.size w w':=by
 have HR:Hid (∀ {b:Bool},(sBad 3 (St.mk op mod name l bd ot)||(l.any (eL 3 6)||(((op == 4||op == 5)||decide (0<bd.length))&&bL 3 k bd||(decide (0<ot.length)&&bL 3 k ot))))=b->b=sL 3 k (St.mk op mod name l bd ot)):=fun h=>by rw [← h];rfl
 have HBx:Hid (Blk (w.alloc (.cells #[.int .i64 op,.string mod,.string name,.slice aa l.length cap,.slice ab bd.length cab,.slice ac ot.length cac] 176)) w.heap.size [.int .i64 op,.string mod,.string name,.slice aa l.length cap,.slice ab bd.length cab,.slice ac ot.length cac]):=Blk.new w _ _;have HB0:Hid (Below w.heap.size w (w.alloc (.cells #[.int .i64 op,.string mod,.string name,.slice aa l.length cap,.slice ab bd.length cab,.slice ac ot.length cac] 176))):=al1 _ _;have HC:Hid (sBad 3 (St.mk op mod name l bd ot)=((inB op 1 3 && !fineB mod name)||(!inB op 1 3&&(!mod.toList.isEmpty || !name.toList.isEmpty))||(decide (0<=stN op)&&((l.length:Int) != stN op))||(op != 4&&op != 5&&decide (0<bd.length))||(op != 4&&decide (0<ot.length)))):=rfl;generalize hCC:sBad 3 (St.mk op mod name l bd ot)=C at HC HR;clear hCC;go_enter Tryz.func191,Tryz.ntmps191
 go_upto_region 9 with fail;generalize hW0:w.alloc (.cells #[.int .i64 op,.string mod,.string name,.slice aa l.length cap,.slice ab bd.length cab,.slice ac ot.length cac] 176)=W0 at *;clear hW0
 go_cut [92] (fun v wc=>v = .bool C/\Hid (Below W0.heap.size W0 wc))
 case first=>
  clear HD HDb HDo HI HR HB0;obtain ⟨x0,x1,x2,x3,x4,x5,xz⟩:=HBx.out.c6;have HBz:Hid (Below W0.heap.size W0 W0.drew):=(Below.refl _ _).drew;generalize hq:stN op=q at *;simp only [List.append_eq,List.cons_append,List.nil_append]
  have HE:Hid (C=true):=by show _=_;rw [HC.out];simp [hR,hf]
  refine wp_region_held_drew (S:=(fun W=>W.cell? ⟨w.heap.size,0,none⟩=some (.int .i64 op)/\W.cell? ⟨w.heap.size,1,none⟩=some (.string mod)/\W.cell? ⟨w.heap.size,2,none⟩=some (.string name)/\W.cell? ⟨w.heap.size,3,none⟩=some (.slice aa l.length cap)/\W.cell? ⟨w.heap.size,4,none⟩=some (.slice ab bd.length cab)/\W.cell? ⟨w.heap.size,5,none⟩=some (.slice ac ot.length cac))) (by kernel_rfl) ?_ (fun hHeld=>?_)
  . (try dsimp only);go_keep
  refine tk (i:=0) (oi:=⟨some 24,_,_,_,_,_⟩) (v:=?vb0) rfl (by kernel_rfl) (fun _ _ _ h=>h) (Or.inl ⟨by rfl,?hb0⟩) hHeld ?rb0
  case hb0=>(intro w hSw;(try dsimp only at hSw);go_simp;(try with_reducible rfl))
  (try simp only [Act.put,sx])
  refine tk (i:=1) (oi:=⟨some 25,_,_,_,_,_⟩) (v:=?vb1) rfl (by kernel_rfl) (fun _ _ _ h=>h) (Or.inl ⟨by rfl,?hb1⟩) hHeld ?rb1
  case hb1=>(intro w hSw;(try dsimp only at hSw);go_simp;(try with_reducible rfl))
  (try simp only [Act.put,sx])
  refine wpAnyH_ready (rs:=[2]) (by kernel_rfl) (by simp) ?_;refine AllReadyH.cons rfl (fun K hK=>?_) AllReadyH.nil;go_simp
  go_wp2_with (go_at_call 163;refine (stmtRef_at hR _).mono ?_;rintro e w' ⟨rfl,rfl⟩)
  refine hK.out _ _ hHeld (fun hHeld=>?_);clear hK K;refine tk (i:=3) (oi:=⟨some 27,_,_,_,_,_⟩) (v:=?vb3) rfl (by kernel_rfl) (fun _ _ _ h=>h) (Or.inl ⟨by rfl,?hb3⟩) hHeld ?rb3
  case hb3=>(intro w hSw;(try dsimp only at hSw);go_simp;(try with_reducible rfl))
  (try simp only [Act.put,sx])
  refine tk (i:=4) (oi:=⟨some 28,_,_,_,_,_⟩) (v:=?vb4) rfl (by kernel_rfl) (fun _ _ _ h=>h) (Or.inl ⟨by rfl,?hb4⟩) hHeld ?rb4
  case hb4=>(intro w hSw;(try dsimp only at hSw);go_simp;(try with_reducible rfl))
  (try simp only [Act.put,sx])
  refine tk (i:=5) (oi:=⟨some 29,_,_,_,_,_⟩) (v:=?vb5) rfl (by kernel_rfl) (fun _ _ _ h=>h) (Or.inl ⟨by rfl,?hb5⟩) hHeld ?rb5
  case hb5=>(intro w hSw;(try dsimp only at hSw);go_simp;(try with_reducible rfl))
  (try simp only [Act.put,sx])
  refine tk (i:=6) (oi:=⟨some 30,_,_,_,_,_⟩) (v:=?vb6) rfl (by kernel_rfl) (fun _ _ _ h=>h) (Or.inl ⟨by rfl,?hb6⟩) hHeld ?rb6
  case hb6=>(intro w hSw;(try dsimp only at hSw);go_simp;(try with_reducible rfl))
  (try simp only [Act.put,sx])
  refine tk (i:=7) (oi:=⟨some 31,_,_,_,_,_⟩) (v:=?vb7) rfl (by kernel_rfl) (fun _ _ _ h=>h) (Or.inl ⟨by rfl,?hb7⟩) hHeld ?rb7
  case hb7=>(intro w hSw;(try dsimp only at hSw);go_simp;(try with_reducible rfl))
  (try simp only [Act.put,sx])
  refine wpAnyH_ready (rs:=[8]) (by kernel_rfl) (by simp) ?_;refine AllReadyH.cons rfl (fun K hK=>?_) AllReadyH.nil;go_simp
  go_wp2_with (go_at_call 245;refine (refFine_at hf _ HWm.out HWn.out).mono ?_;rintro e w' ⟨rfl,hb⟩)
  have FF:=bx6 HBx HBz hb;clear hb;refine hK.out _ _ FF.out.2 (fun hHeld=>?_);clear hK K;refine tk (i:=9) (oi:=⟨some 33,_,_,_,_,_⟩) (v:=?vb9) rfl (by kernel_rfl) (fun _ _ _ h=>h) (Or.inl ⟨by rfl,?hb9⟩) hHeld ?rb9
  case hb9=>(intro w hSw;(try dsimp only at hSw);go_simp;(try with_reducible rfl))
  (try simp only [Act.put,sx])
  refine tk (i:=10) (oi:=⟨some 34,_,_,_,_,_⟩) (v:=?vb10) rfl (by kernel_rfl) (fun _ _ _ h=>h) (Or.inl ⟨by rfl,?hb10⟩) hHeld ?rb10
  case hb10=>(intro w hSw;(try dsimp only at hSw);go_simp;(try with_reducible rfl))
  (try simp only [Act.put,sx])
  refine tk (i:=11) (oi:=⟨some 35,_,_,_,_,_⟩) (v:=?vb11) rfl (by kernel_rfl) (fun _ _ _ h=>h) (Or.inl ⟨by rfl,?hb11⟩) hHeld ?rb11
  case hb11=>(intro w hSw;(try dsimp only at hSw);go_simp;(try with_reducible rfl))
  (try simp only [Act.put,sx])
  refine tk (i:=12) (oi:=⟨some 36,_,_,_,_,_⟩) (v:=undef) rfl (by kernel_rfl) (fun _ _ _ h=>h) (Or.inr ⟨by rfl,rfl⟩) hHeld ?rb12
  (try simp only [Act.put,sx])
  refine tk (i:=13) (oi:=⟨some 37,_,_,_,_,_⟩) (v:=undef) rfl (by kernel_rfl) (fun _ _ _ h=>h) (Or.inr ⟨by rfl,rfl⟩) hHeld ?rb13
  (try simp only [Act.put,sx])
  refine tk (i:=14) (oi:=⟨some 38,_,_,_,_,_⟩) (v:=undef) rfl (by kernel_rfl) (fun _ _ _ h=>h) (Or.inr ⟨by rfl,rfl⟩) hHeld ?rb14
  (try simp only [Act.put,sx])
  refine tk (i:=15) (oi:=⟨some 39,_,_,_,_,_⟩) (v:=undef) rfl (by kernel_rfl) (fun _ _ _ h=>h) (Or.inr ⟨by rfl,rfl⟩) hHeld ?rb15
  (try simp only [Act.put,sx])
  refine tk (i:=16) (oi:=⟨some 40,_,_,_,_,_⟩) (v:=undef) rfl (by kernel_rfl) (fun _ _ _ h=>h) (Or.inr ⟨by rfl,rfl⟩) hHeld ?rb16
  (try simp only [Act.put,sx])
  refine tk (i:=17) (oi:=⟨some 41,_,_,_,_,_⟩) (v:=undef) rfl (by kernel_rfl) (fun _ _ _ h=>h) (Or.inr ⟨by rfl,rfl⟩) hHeld ?rb17
  (try simp only [Act.put,sx])
  refine tk (i:=18) (oi:=⟨some 42,_,_,_,_,_⟩) (v:=undef) rfl (by kernel_rfl) (fun _ _ _ h=>h) (Or.inr ⟨by rfl,rfl⟩) hHeld ?rb18
  (try simp only [Act.put,sx])
  refine tk (i:=19) (oi:=⟨some 43,_,_,_,_,_⟩) (v:=undef) rfl (by kernel_rfl) (fun _ _ _ h=>h) (Or.inr ⟨by rfl,rfl⟩) hHeld ?rb19
  (try simp only [Act.put,sx])
  refine tk (i:=20) (oi:=⟨some 44,_,_,_,_,_⟩) (v:=undef) rfl (by kernel_rfl) (fun _ _ _ h=>h) (Or.inr ⟨by rfl,rfl⟩) hHeld ?rb20
  (try simp only [Act.put,sx])
  refine tk (i:=21) (oi:=⟨some 45,_,_,_,_,_⟩) (v:=undef) rfl (by kernel_rfl) (fun _ _ _ h=>h) (Or.inr ⟨by rfl,rfl⟩) hHeld ?rb21
  (try simp only [Act.put,sx])
  refine tk (i:=22) (oi:=⟨some 46,_,_,_,_,_⟩) (v:=undef) rfl (by kernel_rfl) (fun _ _ _ h=>h) (Or.inr ⟨by rfl,rfl⟩) hHeld ?rb22
  (try simp only [Act.put,sx])
  refine tk (i:=23) (oi:=⟨some 47,_,_,_,_,_⟩) (v:=undef) rfl (by kernel_rfl) (fun _ _ _ h=>h) (Or.inr ⟨by rfl,rfl⟩) hHeld ?rb23
  (try simp only [Act.put,sx])
  refine tk (i:=24) (oi:=⟨some 48,_,_,_,_,_⟩) (v:=undef) rfl (by kernel_rfl) (fun _ _ _ h=>h) (Or.inr ⟨by rfl,rfl⟩) hHeld ?rb24
  (try simp only [Act.put,sx])
  refine tk (i:=25) (oi:=⟨some 49,_,_,_,_,_⟩) (v:=undef) rfl (by kernel_rfl) (fun _ _ _ h=>h) (Or.inr ⟨by rfl,rfl⟩) hHeld ?rb25
  (try simp only [Act.put,sx])
  refine tk (i:=26) (oi:=⟨some 50,_,_,_,_,_⟩) (v:=?vb26) rfl (by kernel_rfl) (fun _ _ _ h=>h) (Or.inl ⟨by rfl,?hb26⟩) hHeld ?rb26
  case hb26=>(intro w hSw;(try dsimp only at hSw);go_simp;(try with_reducible rfl))
  (try simp only [Act.put,sx])
  refine tk (i:=27) (oi:=⟨some 51,_,_,_,_,_⟩) (v:=?vb27) rfl (by kernel_rfl) (fun _ _ _ h=>h) (Or.inl ⟨by rfl,?hb27⟩) hHeld ?rb27
  case hb27=>(intro w hSw;(try dsimp only at hSw);go_simp;(try with_reducible rfl))
  (try simp only [Act.put,sx])
  refine tk (i:=28) (oi:=⟨some 52,_,_,_,_,_⟩) (v:=undef) rfl (by kernel_rfl) (fun _ _ _ h=>h) (Or.inr ⟨by rfl,rfl⟩) hHeld ?rb28
  (try simp only [Act.put,sx])
  refine tk (i:=29) (oi:=⟨some 53,_,_,_,_,_⟩) (v:=undef) rfl (by kernel_rfl) (fun _ _ _ h=>h) (Or.inr ⟨by rfl,rfl⟩) hHeld ?rb29
  (try simp only [Act.put,sx])
  refine tk (i:=30) (oi:=⟨some 54,_,_,_,_,_⟩) (v:=undef) rfl (by kernel_rfl) (fun _ _ _ h=>h) (Or.inr ⟨by rfl,rfl⟩) hHeld ?rb30
  (try simp only [Act.put,sx])
  refine tk (i:=31) (oi:=⟨some 55,_,_,_,_,_⟩) (v:=undef) rfl (by kernel_rfl) (fun _ _ _ h=>h) (Or.inr ⟨by rfl,rfl⟩) hHeld ?rb31
  (try simp only [Act.put,sx])
  refine tk (i:=32) (oi:=⟨some 56,_,_,_,_,_⟩) (v:=undef) rfl (by kernel_rfl) (fun _ _ _ h=>h) (Or.inr ⟨by rfl,rfl⟩) hHeld ?rb32
  (try simp only [Act.put,sx])
  refine tk (i:=33) (oi:=⟨some 57,_,_,_,_,_⟩) (v:=undef) rfl (by kernel_rfl) (fun _ _ _ h=>h) (Or.inr ⟨by rfl,rfl⟩) hHeld ?rb33
  (try simp only [Act.put,sx])
  refine tk (i:=34) (oi:=⟨some 58,_,_,_,_,_⟩) (v:=undef) rfl (by kernel_rfl) (fun _ _ _ h=>h) (Or.inr ⟨by rfl,rfl⟩) hHeld ?rb34
  (try simp only [Act.put,sx])
  refine tk (i:=35) (oi:=⟨some 59,_,_,_,_,_⟩) (v:=undef) rfl (by kernel_rfl) (fun _ _ _ h=>h) (Or.inr ⟨by rfl,rfl⟩) hHeld ?rb35
  (try simp only [Act.put,sx])
  refine tk (i:=36) (oi:=⟨some 60,_,_,_,_,_⟩) (v:=undef) rfl (by kernel_rfl) (fun _ _ _ h=>h) (Or.inr ⟨by rfl,rfl⟩) hHeld ?rb36
  (try simp only [Act.put,sx])
  refine tk (i:=37) (oi:=⟨some 61,_,_,_,_,_⟩) (v:=undef) rfl (by kernel_rfl) (fun _ _ _ h=>h) (Or.inr ⟨by rfl,rfl⟩) hHeld ?rb37
  (try simp only [Act.put,sx])
  refine tk (i:=38) (oi:=⟨some 62,_,_,_,_,_⟩) (v:=undef) rfl (by kernel_rfl) (fun _ _ _ h=>h) (Or.inr ⟨by rfl,rfl⟩) hHeld ?rb38
  (try simp only [Act.put,sx])
  refine tk (i:=39) (oi:=⟨some 63,_,_,_,_,_⟩) (v:=undef) rfl (by kernel_rfl) (fun _ _ _ h=>h) (Or.inr ⟨by rfl,rfl⟩) hHeld ?rb39
  (try simp only [Act.put,sx])
  refine tk (i:=40) (oi:=⟨some 64,_,_,_,_,_⟩) (v:=undef) rfl (by kernel_rfl) (fun _ _ _ h=>h) (Or.inr ⟨by rfl,rfl⟩) hHeld ?rb40
  (try simp only [Act.put,sx])
  refine tk (i:=41) (oi:=⟨some 65,_,_,_,_,_⟩) (v:=?vb41) rfl (by kernel_rfl) (fun _ _ _ h=>h) (Or.inl ⟨by rfl,?hb41⟩) hHeld ?rb41
  case hb41=>(intro w hSw;(try dsimp only at hSw);go_simp;(try with_reducible rfl))
  (try simp only [Act.put,sx])
  refine tk (i:=42) (oi:=⟨some 66,_,_,_,_,_⟩) (v:=?vb42) rfl (by kernel_rfl) (fun _ _ _ h=>h) (Or.inl ⟨by rfl,?hb42⟩) hHeld ?rb42
  case hb42=>(intro w hSw;(try dsimp only at hSw);go_simp;(try with_reducible rfl))
  (try simp only [Act.put,sx])
  refine tk (i:=43) (oi:=⟨some 67,_,_,_,_,_⟩) (v:=undef) rfl (by kernel_rfl) (fun _ _ _ h=>h) (Or.inr ⟨by rfl,rfl⟩) hHeld ?rb43
  (try simp only [Act.put,sx])
  refine tk (i:=44) (oi:=⟨some 68,_,_,_,_,_⟩) (v:=undef) rfl (by kernel_rfl) (fun _ _ _ h=>h) (Or.inr ⟨by rfl,rfl⟩) hHeld ?rb44
  (try simp only [Act.put,sx])
  refine tk (i:=45) (oi:=⟨some 69,_,_,_,_,_⟩) (v:=undef) rfl (by kernel_rfl) (fun _ _ _ h=>h) (Or.inr ⟨by rfl,rfl⟩) hHeld ?rb45
  (try simp only [Act.put,sx])
  refine tk (i:=46) (oi:=⟨some 70,_,_,_,_,_⟩) (v:=undef) rfl (by kernel_rfl) (fun _ _ _ h=>h) (Or.inr ⟨by rfl,rfl⟩) hHeld ?rb46
  (try simp only [Act.put,sx])
  refine tk (i:=47) (oi:=⟨some 71,_,_,_,_,_⟩) (v:=undef) rfl (by kernel_rfl) (fun _ _ _ h=>h) (Or.inr ⟨by rfl,rfl⟩) hHeld ?rb47
  (try simp only [Act.put,sx])
  refine tk (i:=48) (oi:=⟨some 72,_,_,_,_,_⟩) (v:=undef) rfl (by kernel_rfl) (fun _ _ _ h=>h) (Or.inr ⟨by rfl,rfl⟩) hHeld ?rb48
  (try simp only [Act.put,sx])
  refine tk (i:=49) (oi:=⟨some 73,_,_,_,_,_⟩) (v:=undef) rfl (by kernel_rfl) (fun _ _ _ h=>h) (Or.inr ⟨by rfl,rfl⟩) hHeld ?rb49
  (try simp only [Act.put,sx])
  refine tk (i:=50) (oi:=⟨some 74,_,_,_,_,_⟩) (v:=undef) rfl (by kernel_rfl) (fun _ _ _ h=>h) (Or.inr ⟨by rfl,rfl⟩) hHeld ?rb50
  (try simp only [Act.put,sx])
  refine tk (i:=51) (oi:=⟨some 75,_,_,_,_,_⟩) (v:=undef) rfl (by kernel_rfl) (fun _ _ _ h=>h) (Or.inr ⟨by rfl,rfl⟩) hHeld ?rb51
  (try simp only [Act.put,sx])
  refine tk (i:=52) (oi:=⟨some 76,_,_,_,_,_⟩) (v:=undef) rfl (by kernel_rfl) (fun _ _ _ h=>h) (Or.inr ⟨by rfl,rfl⟩) hHeld ?rb52
  (try simp only [Act.put,sx])
  refine tk (i:=53) (oi:=⟨some 77,_,_,_,_,_⟩) (v:=undef) rfl (by kernel_rfl) (fun _ _ _ h=>h) (Or.inr ⟨by rfl,rfl⟩) hHeld ?rb53
  (try simp only [Act.put,sx])
  refine tk (i:=54) (oi:=⟨some 78,_,_,_,_,_⟩) (v:=undef) rfl (by kernel_rfl) (fun _ _ _ h=>h) (Or.inr ⟨by rfl,rfl⟩) hHeld ?rb54
  (try simp only [Act.put,sx])
  refine tk (i:=55) (oi:=⟨some 79,_,_,_,_,_⟩) (v:=undef) rfl (by kernel_rfl) (fun _ _ _ h=>h) (Or.inr ⟨by rfl,rfl⟩) hHeld ?rb55
  (try simp only [Act.put,sx])
  refine tk (i:=56) (oi:=⟨some 80,_,_,_,_,_⟩) (v:=undef) rfl (by kernel_rfl) (fun _ _ _ h=>h) (Or.inr ⟨by rfl,rfl⟩) hHeld ?rb56
  (try simp only [Act.put,sx])
  refine tk (i:=57) (oi:=⟨some 81,_,_,_,_,_⟩) (v:=?vb57) rfl (by kernel_rfl) (fun _ _ _ h=>h) (Or.inl ⟨by rfl,?hb57⟩) hHeld ?rb57
  case hb57=>(intro w hSw;(try dsimp only at hSw);go_simp;(try with_reducible rfl))
  (try simp only [Act.put,sx])
  refine tk (i:=58) (oi:=⟨some 82,_,_,_,_,_⟩) (v:=?vb58) rfl (by kernel_rfl) (fun _ _ _ h=>h) (Or.inl ⟨by rfl,?hb58⟩) hHeld ?rb58
  case hb58=>(intro w hSw;(try dsimp only at hSw);go_simp;(try with_reducible rfl))
  (try simp only [Act.put,sx])
  refine tk (i:=59) (oi:=⟨some 83,_,_,_,_,_⟩) (v:=undef) rfl (by kernel_rfl) (fun _ _ _ h=>h) (Or.inr ⟨by rfl,rfl⟩) hHeld ?rb59
  (try simp only [Act.put,sx])
  refine tk (i:=60) (oi:=⟨some 84,_,_,_,_,_⟩) (v:=undef) rfl (by kernel_rfl) (fun _ _ _ h=>h) (Or.inr ⟨by rfl,rfl⟩) hHeld ?rb60
  (try simp only [Act.put,sx])
  refine tk (i:=61) (oi:=⟨some 85,_,_,_,_,_⟩) (v:=undef) rfl (by kernel_rfl) (fun _ _ _ h=>h) (Or.inr ⟨by rfl,rfl⟩) hHeld ?rb61
  (try simp only [Act.put,sx])
  refine tk (i:=62) (oi:=⟨some 86,_,_,_,_,_⟩) (v:=undef) rfl (by kernel_rfl) (fun _ _ _ h=>h) (Or.inr ⟨by rfl,rfl⟩) hHeld ?rb62
  (try simp only [Act.put,sx])
  refine tk (i:=63) (oi:=⟨some 87,_,_,_,_,_⟩) (v:=undef) rfl (by kernel_rfl) (fun _ _ _ h=>h) (Or.inr ⟨by rfl,rfl⟩) hHeld ?rb63
  (try simp only [Act.put,sx])
  refine tk (i:=64) (oi:=⟨some 88,_,_,_,_,_⟩) (v:=undef) rfl (by kernel_rfl) (fun _ _ _ h=>h) (Or.inr ⟨by rfl,rfl⟩) hHeld ?rb64
  (try simp only [Act.put,sx])
  refine tk (i:=65) (oi:=⟨some 89,_,_,_,_,_⟩) (v:=undef) rfl (by kernel_rfl) (fun _ _ _ h=>h) (Or.inr ⟨by rfl,rfl⟩) hHeld ?rb65
  (try simp only [Act.put,sx])
  refine tk (i:=66) (oi:=⟨some 90,_,_,_,_,_⟩) (v:=undef) rfl (by kernel_rfl) (fun _ _ _ h=>h) (Or.inr ⟨by rfl,rfl⟩) hHeld ?rb66
  (try simp only [Act.put,sx])
  refine tk (i:=67) (oi:=⟨some 91,_,_,_,_,_⟩) (v:=undef) rfl (by kernel_rfl) (fun _ _ _ h=>h) (Or.inr ⟨by rfl,rfl⟩) hHeld ?rb67
  (try simp only [Act.put,sx])
  refine tk (i:=68) (oi:=⟨some 92,_,_,_,_,_⟩) (v:=?vb68) rfl (by kernel_rfl) (fun _ _ _ h=>h) (Or.inl ⟨by rfl,?hb68⟩) hHeld ?rb68
  case hb68=>(intro w hSw;(try dsimp only at hSw);go_simp;(try with_reducible rfl))
  (try simp only [Act.put,sx])
  refine wpAnyH_done (by kernel_rfl) ?_ _;go_wp2_with fail;go_meet;exact ⟨by rw [HE.out],endB FF⟩
 case rest =>
  obtain ⟨rfl,HBc⟩:=hcut;have HB0':Hid (Below w.heap.size w wc):=thenB HB0.out HBc.out;have HBx':Hid (Blk wc w.heap.size [.int .i64 op,.string mod,.string name,.slice aa l.length cap,.slice ab bd.length cab,.slice ac ot.length cac]):=HBx.out.later HBc.out;clear HB0 HBx HBc HC;have HB0:=HB0';have HBx:=HBx';clear HB0' HBx';obtain ⟨x0,x1,x2,x3,x4,x5,xz⟩:=HBx.out.c6;clear x0 x1 x2 x4 x5
  cases hCb:C with
  | true=>
    subst hCb;go_wp2_with fail;go_ret;exact ⟨ret_bool (HR.out rfl),HB0.out⟩
  | false =>
    subst hCb;go_wp2_with fail
    go_loopw [7] (fun i wr=>∃ j:Nat,j<=l.length/\i = .int .i64 j/\(l.take j).any (eL 3 6)=false/\Below w.heap.size w wr/\Blk wr w.heap.size [.int .i64 op,.string mod,.string name,.slice aa l.length cap,.slice ab bd.length cab,.slice ac ot.length cac]) (fun i _=>l.length - (intOf i).toNat)
    case atStart=>exact ⟨0,Nat.zero_le _,rfl,rfl,HB0.out,HBx.out⟩
    case round =>
     obtain ⟨j,hj,rfl,hall,hb,hB⟩:=hrel;clear HBx HB0;clear x3 xz;obtain ⟨q0,q1,q2,q3,q4,q5,qz⟩:=hB.c6;clear q1 q2;have HB:Hid (Blk wr w.heap.size [.int .i64 op,.string mod,.string name,.slice aa l.length cap,.slice ab bd.length cab,.slice ac ot.length cac]):=hB;have HA:Hid ((l.take j).any (eL 3 6)=false):=hall;clear hall hB
     by_cases hlt:j<l.length
     . obtain ⟨b,off,a2,cp,rfl,hx⟩:=(HD.out.later hb).ex j hlt
       have hc0:=hx.c0;have hc1:=hx.c1;have hc2:=hx.c2;have hc3:=hx.c3;have hc4:=hx.c4;have hlb:=hx.lt;have HX:Hid (ExAt wr A b (off+j*5) l[j] a2 cp):=hx;clear hx;go_wp2_with fail;refine (exprLook_any A 6 (by omega) 3 (by omega) l[j] a2 cp 1 _ (by omega) HX.out.args HX.out.wm HX.out.wna).mono ?_
       cases hr:eL 3 6 l[j] with
       | true=>
         have HF:Hid (l.any (eL 3 6)=true):=any_at l _ j hlt hr;rintro e w3 ⟨rfl,hb3⟩;go_wp2_with fail;go_ret;exact ⟨ret_bool (HR.out (by rw [HF.out];simp)),thenB hb hb3⟩
       | false=>
         have HT:Hid ((l.take (j+1)).any (eL 3 6)=false):=by
          show _=_
          rw [any_snoc l _ j hlt,HA.out,hr];rfl
         rintro e w3 ⟨rfl,hb3⟩;go_wp2_with fail;go_roundw
         case rel=>exact ⟨j+1,by omega,by go_num,HT.out,thenB hb hb3,HB.out.later hb3⟩
         case measure=>simp [intOf];omega
     . have HT : Hid (l.any (eL 3 6)=false):=any_end HA.out hlt
       have HS:Hid (∀ {b:Bool},(((op == 4||op == 5)||decide (0<bd.length))&&bL 3 k bd||(decide (0<ot.length)&&bL 3 k ot))=b->b=sL 3 k (St.mk op mod name l bd ot)):=fun h=>HR.out (by rw [HT.out,Bool.false_or,Bool.false_or];exact h)
       clear HR HT HA HD;have HDb':Hid (DAt wr A ab bd.length (stsD bd)):=HDb.out.later hb;have HDo':Hid (DAt wr A ac ot.length (stsD ot)):=HDo.out.later hb;clear HDb HDo
       cases h4:(op == 4) with
       | true=>
         go_wp2_with fail;refine (HI.out bd ab cab _ HDb'.out).mono ?_
         cases hr1:bL 3 k bd with
         | true=>
           rintro e w4 ⟨rfl,c1⟩;go_wp2_with fail;go_ret;exact ⟨ret_bool (HS.out (by simp [hr1,h4])),thenB hb c1⟩
         | false=>
           rintro e w4 ⟨rfl,c1⟩;clear q0 q3 q4 q5 qz;obtain ⟨q0,q1,q2,q3,q4,q5,qz⟩:=(HB.out.later c1).c6;clear q0 q1 q2 q3 q4
           by_cases ho:0<ot.length
           . go_wp2_with fail
             refine (HI.out ot ac cac _ (HDo'.out.later c1)).mono ?_
             cases hr2:bL 3 k ot with
             | true=>
               rintro e w5 ⟨rfl,c2⟩;go_wp2_with fail;go_ret;exact ⟨ret_bool (HS.out (by simp [hr2,ho])),thenB (thenB hb c1) c2⟩
             | false=>
               rintro e w5 ⟨rfl,c2⟩;go_wp2_with fail;go_ret;exact ⟨ret_bool (HS.out (by simp [hr2,hr1])),thenB (thenB hb c1) c2⟩
           . go_wp2_with fail
             go_ret;exact ⟨ret_bool (HS.out (by simp [ho,hr1])),(thenB hb c1)⟩
       | false =>
         cases h5:(op == 5) with
         | true=>
           go_wp2_with fail;refine (HI.out bd ab cab _ HDb'.out).mono ?_
           cases hr1:bL 3 k bd with
           | true=>
             rintro e w4 ⟨rfl,c1⟩;go_wp2_with fail;go_ret;exact ⟨ret_bool (HS.out (by simp [hr1,h4,h5])),thenB hb c1⟩
           | false=>
             rintro e w4 ⟨rfl,c1⟩;clear q0 q3 q4 q5 qz;obtain ⟨q0,q1,q2,q3,q4,q5,qz⟩:=(HB.out.later c1).c6;clear q0 q1 q2 q3 q4
             by_cases ho:0<ot.length
             . go_wp2_with fail
               refine (HI.out ot ac cac _ (HDo'.out.later c1)).mono ?_
               cases hr2:bL 3 k ot with
               | true=>
                 rintro e w5 ⟨rfl,c2⟩;go_wp2_with fail;go_ret;exact ⟨ret_bool (HS.out (by simp [hr2,ho])),thenB (thenB hb c1) c2⟩
               | false=>
                 rintro e w5 ⟨rfl,c2⟩;go_wp2_with fail;go_ret;exact ⟨ret_bool (HS.out (by simp [hr2,hr1])),thenB (thenB hb c1) c2⟩
             . go_wp2_with fail
               go_ret;exact ⟨ret_bool (HS.out (by simp [ho,hr1])),(thenB hb c1)⟩
         | false =>
           by_cases hb0:0<bd.length
           . skip
             go_wp2_with fail;refine (HI.out bd ab cab _ HDb'.out).mono ?_
             cases hr1:bL 3 k bd with
             | true=>
               rintro e w4 ⟨rfl,c1⟩;go_wp2_with fail;go_ret;exact ⟨ret_bool (HS.out (by simp [hr1,h4,h5,hb0])),thenB hb c1⟩
             | false=>
               rintro e w4 ⟨rfl,c1⟩;clear q0 q3 q4 q5 qz;obtain ⟨q0,q1,q2,q3,q4,q5,qz⟩:=(HB.out.later c1).c6;clear q0 q1 q2 q3 q4
               by_cases ho:0<ot.length
               . go_wp2_with fail
                 refine (HI.out ot ac cac _ (HDo'.out.later c1)).mono ?_
                 cases hr2:bL 3 k ot with
                 | true=>
                   rintro e w5 ⟨rfl,c2⟩;go_wp2_with fail;go_ret;exact ⟨ret_bool (HS.out (by simp [hr2,ho])),thenB (thenB hb c1) c2⟩
                 | false=>
                   rintro e w5 ⟨rfl,c2⟩;go_wp2_with fail;go_ret;exact ⟨ret_bool (HS.out (by simp [hr2,hr1])),thenB (thenB hb c1) c2⟩
               . go_wp2_with fail
                 go_ret;exact ⟨ret_bool (HS.out (by simp [ho,hr1])),(thenB hb c1)⟩
           . skip
             by_cases ho:0<ot.length
             . go_wp2_with fail
               refine (HI.out ot ac cac _ HDo'.out).mono ?_
               cases hr2:bL 3 k ot with
               | true=>
                 rintro e w5 ⟨rfl,c2⟩;go_wp2_with fail;go_ret;exact ⟨ret_bool (HS.out (by simp [hr2,ho])),thenB hb c2⟩
               | false=>
                 rintro e w5 ⟨rfl,c2⟩;go_wp2_with fail;go_ret;exact ⟨ret_bool (HS.out (by simp [hr2,h4,h5,hb0])),thenB hb c2⟩
             . go_wp2_with fail
               go_ret;exact ⟨ret_bool (HS.out (by simp [ho,h4,h5,hb0])),hb⟩
end Go.Proofs.YtndkhgakfodldaaGreatDoor
