/-
  exprLook, level 3: a name that is one.
-/
import Derived.Test.YtndkhgakfodldaaGreatDoorRb
namespace Go.Proofs.YtndkhgakfodldaaGreatDoor
set_option maxRecDepth 100000
set_option maxHeartbeats 8000000
open Go.RowKit Go.Maps
theorem exprStep3e (A:Nat->Prop) (k:Nat) (op n:Int) (mod name:ByteArray) (l:List Ex) (aa:Option Addr) (cap:Nat) (deep:Int) (w:World) (hbd:l.length<=17592186044416) (hd1:1<=deep) (hd6:deep<=6)
 (HI:Hid (∀ (x:Ex) (aa:Option Addr) (cap:Nat) (w:World),DAt w A aa x.args.length (exsD x.args)->x.mod.size<=maxLen->x.name.size<=maxLen->
   Calls Tryz.prog 247 #[.agg #[.int .i64 x.op,.int .i64 x.n,.string x.mod,.string x.name,.slice aa x.args.length cap],.int .i64 3,.int .i64 (deep+1)] w fun e w'=>e = .returned (.bool (eL 3 k x))/\Below w.heap.size w w'))
 (HD:Hid (DAt w A aa l.length (exsD l))) (HWm:Hid (mod.size<=maxLen)) (HWn:Hid (name.size<=maxLen))
 (hR:inB op 3 5=true) (hf:fineB mod name=true) :
 Calls Tryz.prog 247 #[.agg #[.int .i64 op,.int .i64 n,.string mod,.string name,.slice aa l.length cap],.int .i64 3,.int .i64 deep] w fun e w'=>e = .returned (.bool (eL 3 (k+1) (.mk op n mod name l)))/\Below w.heap.size w w':=by
 have HR:Hid (∀ {b:Bool},(eBad 3 (.mk op n mod name l)||l.any (eL 3 k))=b->b=eL 3 (k+1) (.mk op n mod name l)):=fun h=>by rw [← h];simp [eL,Ex.args]
 have HBx:Hid (Blk (w.alloc (.cells #[.int .i64 op,.int .i64 n,.string mod,.string name,.slice aa l.length cap] 174)) w.heap.size [.int .i64 op,.int .i64 n,.string mod,.string name,.slice aa l.length cap]):=Blk.new w _ _;have HB0:Hid (Below w.heap.size w (w.alloc (.cells #[.int .i64 op,.int .i64 n,.string mod,.string name,.slice aa l.length cap] 174))):=al1 _ _;have HC:Hid (eBad 3 (.mk op n mod name l)=((inB op 3 5 && !fineB mod name)||(!inB op 3 5&&(!mod.toList.isEmpty || !name.toList.isEmpty))||(op == 1 && !inB n 0 1099511627775)||(op != 1&&n != 0)||(decide (0<=exN op)&&((l.length:Int) != exN op)))):=rfl;generalize hCC:eBad 3 (.mk op n mod name l)=C at HC HR;clear hCC;go_enter Tryz.func247,Tryz.ntmps247;go_upto_region 11 with fail;generalize hW0:w.alloc (.cells #[.int .i64 op,.int .i64 n,.string mod,.string name,.slice aa l.length cap] 174)=W0 at *
 clear hW0
 go_cut [89] (fun v wc=>v = .bool C/\Hid (Below W0.heap.size W0 wc))
 case first=>
  clear HD HI HR HB0;obtain ⟨x0,x1,x2,x3,x4,xz⟩:=HBx.out.c5;have HBz:Hid (Below W0.heap.size W0 W0.drew):=(Below.refl _ _).drew;generalize hq:exN op=q at *;have ho1:(op == 1)=false:=beq_eq_false_iff_ne.2 (by simp [inB] at hR;omega)
  have ho2:(op != 1)=true:=by simp only [bne,ho1];rfl
  cases hN:(n != 0) with
  | true=>
    have HE:Hid (C=true):=by show _=_;rw [HC.out];simp [hR,hf,ho1,ho2,hN]
    refine wp_region_held_drew (S:=(fun W=>W.cell? ⟨w.heap.size,0,none⟩=some (.int .i64 op)/\W.cell? ⟨w.heap.size,1,none⟩=some (.int .i64 n)/\W.cell? ⟨w.heap.size,2,none⟩=some (.string mod)/\W.cell? ⟨w.heap.size,3,none⟩=some (.string name)/\W.cell? ⟨w.heap.size,4,none⟩=some (.slice aa l.length cap))) (by kernel_rfl) ?_ (fun hHeld=>?_)
    . (try dsimp only);go_keep
    refine tk (i:=0) (oi:=⟨some 27,_,_,_,_,_⟩) (v:=?vc0) rfl (by kernel_rfl) (fun _ _ _ h=>h) (Or.inl ⟨by rfl,?hc0⟩) hHeld ?rc0
    case hc0=>(intro w hSw;(try dsimp only at hSw);go_simp;(try with_reducible rfl))
    (try simp only [Act.put,sx])
    refine tk (i:=1) (oi:=⟨some 28,_,_,_,_,_⟩) (v:=?vc1) rfl (by kernel_rfl) (fun _ _ _ h=>h) (Or.inl ⟨by rfl,?hc1⟩) hHeld ?rc1
    case hc1=>(intro w hSw;(try dsimp only at hSw);go_simp;(try with_reducible rfl))
    (try simp only [Act.put,sx])
    refine wpAnyH_ready (rs:=[2]) (by kernel_rfl) (by simp) ?_;refine AllReadyH.cons rfl (fun K hK=>?_) AllReadyH.nil;go_simp
    go_wp2_with (go_at_call 259;refine (exprRef_at hR _).mono ?_;rintro e w' ⟨rfl,rfl⟩)
    refine hK.out _ _ hHeld (fun hHeld=>?_);clear hK K;refine tk (i:=3) (oi:=⟨some 30,_,_,_,_,_⟩) (v:=?vc3) rfl (by kernel_rfl) (fun _ _ _ h=>h) (Or.inl ⟨by rfl,?hc3⟩) hHeld ?rc3
    case hc3=>(intro w hSw;(try dsimp only at hSw);go_simp;(try with_reducible rfl))
    (try simp only [Act.put,sx])
    refine tk (i:=4) (oi:=⟨some 31,_,_,_,_,_⟩) (v:=?vc4) rfl (by kernel_rfl) (fun _ _ _ h=>h) (Or.inl ⟨by rfl,?hc4⟩) hHeld ?rc4
    case hc4=>(intro w hSw;(try dsimp only at hSw);go_simp;(try with_reducible rfl))
    (try simp only [Act.put,sx])
    refine tk (i:=5) (oi:=⟨some 32,_,_,_,_,_⟩) (v:=?vc5) rfl (by kernel_rfl) (fun _ _ _ h=>h) (Or.inl ⟨by rfl,?hc5⟩) hHeld ?rc5
    case hc5=>(intro w hSw;(try dsimp only at hSw);go_simp;(try with_reducible rfl))
    (try simp only [Act.put,sx])
    refine tk (i:=6) (oi:=⟨some 33,_,_,_,_,_⟩) (v:=?vc6) rfl (by kernel_rfl) (fun _ _ _ h=>h) (Or.inl ⟨by rfl,?hc6⟩) hHeld ?rc6
    case hc6=>(intro w hSw;(try dsimp only at hSw);go_simp;(try with_reducible rfl))
    (try simp only [Act.put,sx])
    refine tk (i:=7) (oi:=⟨some 34,_,_,_,_,_⟩) (v:=?vc7) rfl (by kernel_rfl) (fun _ _ _ h=>h) (Or.inl ⟨by rfl,?hc7⟩) hHeld ?rc7
    case hc7=>(intro w hSw;(try dsimp only at hSw);go_simp;(try with_reducible rfl))
    (try simp only [Act.put,sx])
    refine wpAnyH_ready (rs:=[8]) (by kernel_rfl) (by simp) ?_;refine AllReadyH.cons rfl (fun K hK=>?_) AllReadyH.nil;go_simp
    go_wp2_with (go_at_call 245;refine (refFine_at hf _ HWm.out HWn.out).mono ?_;rintro e w' ⟨rfl,hb⟩)
    have FF:=bx5 HBx HBz hb;clear hb;refine hK.out _ _ FF.out.2 (fun hHeld=>?_);clear hK K;refine tk (i:=9) (oi:=⟨some 36,_,_,_,_,_⟩) (v:=?vc9) rfl (by kernel_rfl) (fun _ _ _ h=>h) (Or.inl ⟨by rfl,?hc9⟩) hHeld ?rc9
    case hc9=>(intro w hSw;(try dsimp only at hSw);go_simp;(try with_reducible rfl))
    (try simp only [Act.put,sx])
    refine tk (i:=10) (oi:=⟨some 37,_,_,_,_,_⟩) (v:=?vc10) rfl (by kernel_rfl) (fun _ _ _ h=>h) (Or.inl ⟨by rfl,?hc10⟩) hHeld ?rc10
    case hc10=>(intro w hSw;(try dsimp only at hSw);go_simp;(try with_reducible rfl))
    (try simp only [Act.put,sx])
    refine tk (i:=11) (oi:=⟨some 38,_,_,_,_,_⟩) (v:=?vc11) rfl (by kernel_rfl) (fun _ _ _ h=>h) (Or.inl ⟨by rfl,?hc11⟩) hHeld ?rc11
    case hc11=>(intro w hSw;(try dsimp only at hSw);go_simp;(try with_reducible rfl))
    (try simp only [Act.put,sx])
    refine tk (i:=12) (oi:=⟨some 39,_,_,_,_,_⟩) (v:=?vc12) rfl (by kernel_rfl) (fun _ _ _ h=>h) (Or.inl ⟨by rfl,?hc12⟩) hHeld ?rc12
    case hc12=>(intro w hSw;(try dsimp only at hSw);go_simp;(try with_reducible rfl))
    (try simp only [Act.put,sx])
    refine tk (i:=13) (oi:=⟨some 40,_,_,_,_,_⟩) (v:=?vc13) rfl (by kernel_rfl) (fun _ _ _ h=>h) (Or.inl ⟨by rfl,?hc13⟩) hHeld ?rc13
    case hc13=>(intro w hSw;(try dsimp only at hSw);go_simp;(try with_reducible rfl))
    (try simp only [Act.put,sx])
    refine wpAnyH_ready (rs:=[14]) (by kernel_rfl) (by simp) ?_;refine AllReadyH.cons rfl (fun K hK=>?_) AllReadyH.nil;go_simp
    go_wp2_with (go_at_call 259;refine (exprRef_at hR _).mono ?_;rintro e w' ⟨rfl,rfl⟩)
    refine hK.out _ _ hHeld (fun hHeld=>?_);clear hK K;refine tk (i:=15) (oi:=⟨some 42,_,_,_,_,_⟩) (v:=?vc15) rfl (by kernel_rfl) (fun _ _ _ h=>h) (Or.inl ⟨by rfl,?hc15⟩) hHeld ?rc15
    case hc15=>(intro w hSw;(try dsimp only at hSw);go_simp;(try with_reducible rfl))
    (try simp only [Act.put,sx])
    refine tk (i:=16) (oi:=⟨some 43,_,_,_,_,_⟩) (v:=?vc16) rfl (by kernel_rfl) (fun _ _ _ h=>h) (Or.inl ⟨by rfl,?hc16⟩) hHeld ?rc16
    case hc16=>(intro w hSw;(try dsimp only at hSw);go_simp;(try with_reducible rfl))
    (try simp only [Act.put,sx])
    refine tk (i:=17) (oi:=⟨some 44,_,_,_,_,_⟩) (v:=undef) rfl (by kernel_rfl) (fun _ _ _ h=>h) (Or.inr ⟨by rfl,rfl⟩) hHeld ?rc17
    (try simp only [Act.put,sx])
    refine tk (i:=18) (oi:=⟨some 45,_,_,_,_,_⟩) (v:=undef) rfl (by kernel_rfl) (fun _ _ _ h=>h) (Or.inr ⟨by rfl,rfl⟩) hHeld ?rc18
    (try simp only [Act.put,sx])
    refine tk (i:=19) (oi:=⟨some 46,_,_,_,_,_⟩) (v:=undef) rfl (by kernel_rfl) (fun _ _ _ h=>h) (Or.inr ⟨by rfl,rfl⟩) hHeld ?rc19
    (try simp only [Act.put,sx])
    refine tk (i:=20) (oi:=⟨some 47,_,_,_,_,_⟩) (v:=undef) rfl (by kernel_rfl) (fun _ _ _ h=>h) (Or.inr ⟨by rfl,rfl⟩) hHeld ?rc20
    (try simp only [Act.put,sx])
    refine tk (i:=21) (oi:=⟨some 48,_,_,_,_,_⟩) (v:=undef) rfl (by kernel_rfl) (fun _ _ _ h=>h) (Or.inr ⟨by rfl,rfl⟩) hHeld ?rc21
    (try simp only [Act.put,sx])
    refine tk (i:=22) (oi:=⟨some 49,_,_,_,_,_⟩) (v:=undef) rfl (by kernel_rfl) (fun _ _ _ h=>h) (Or.inr ⟨by rfl,rfl⟩) hHeld ?rc22
    (try simp only [Act.put,sx])
    refine tk (i:=23) (oi:=⟨some 50,_,_,_,_,_⟩) (v:=undef) rfl (by kernel_rfl) (fun _ _ _ h=>h) (Or.inr ⟨by rfl,rfl⟩) hHeld ?rc23
    (try simp only [Act.put,sx])
    refine tk (i:=24) (oi:=⟨some 51,_,_,_,_,_⟩) (v:=undef) rfl (by kernel_rfl) (fun _ _ _ h=>h) (Or.inr ⟨by rfl,rfl⟩) hHeld ?rc24
    (try simp only [Act.put,sx])
    refine tk (i:=25) (oi:=⟨some 52,_,_,_,_,_⟩) (v:=?vc25) rfl (by kernel_rfl) (fun _ _ _ h=>h) (Or.inl ⟨by rfl,?hc25⟩) hHeld ?rc25
    case hc25=>(intro w hSw;(try dsimp only at hSw);go_simp;(try with_reducible rfl))
    (try simp only [Act.put,sx])
    refine tk (i:=26) (oi:=⟨some 53,_,_,_,_,_⟩) (v:=?vc26) rfl (by kernel_rfl) (fun _ _ _ h=>h) (Or.inl ⟨by rfl,?hc26⟩) hHeld ?rc26
    case hc26=>(intro w hSw;(try dsimp only at hSw);go_simp;(try with_reducible rfl))
    (try simp only [Act.put,sx])
    refine tk (i:=27) (oi:=⟨some 54,_,_,_,_,_⟩) (v:=?vc27) rfl (by kernel_rfl) (fun _ _ _ h=>h) (Or.inl ⟨by rfl,?hc27⟩) hHeld ?rc27
    case hc27=>(intro w hSw;(try dsimp only at hSw);go_simp;(try with_reducible rfl))
    (try simp only [Act.put,sx])
    refine tk (i:=28) (oi:=⟨some 55,_,_,_,_,_⟩) (v:=?vc28) rfl (by kernel_rfl) (fun _ _ _ h=>h) (Or.inl ⟨by rfl,?hc28⟩) hHeld ?rc28
    case hc28=>(intro w hSw;(try dsimp only at hSw);go_simp;(try with_reducible rfl))
    (try simp only [Act.put,sx])
    refine tk (i:=29) (oi:=⟨some 56,_,_,_,_,_⟩) (v:=?vc29) rfl (by kernel_rfl) (fun _ _ _ h=>h) (Or.inl ⟨by rfl,?hc29⟩) hHeld ?rc29
    case hc29=>(intro w hSw;(try dsimp only at hSw);go_simp;(try with_reducible rfl))
    (try simp only [Act.put,sx])
    refine tk (i:=30) (oi:=⟨some 57,_,_,_,_,_⟩) (v:=?vc30) rfl (by kernel_rfl) (fun _ _ _ h=>h) (Or.inl ⟨by rfl,?hc30⟩) hHeld ?rc30
    case hc30=>(intro w hSw;(try dsimp only at hSw);go_simp;(try with_reducible rfl))
    (try simp only [Act.put,sx])
    refine tk (i:=31) (oi:=⟨some 58,_,_,_,_,_⟩) (v:=?vc31) rfl (by kernel_rfl) (fun _ _ _ h=>h) (Or.inl ⟨by rfl,?hc31⟩) hHeld ?rc31
    case hc31=>(intro w hSw;(try dsimp only at hSw);go_simp;(try with_reducible rfl))
    (try simp only [Act.put,sx])
    refine tk (i:=32) (oi:=⟨some 59,_,_,_,_,_⟩) (v:=undef) rfl (by kernel_rfl) (fun _ _ _ h=>h) (Or.inr ⟨by rfl,rfl⟩) hHeld ?rc32
    (try simp only [Act.put,sx])
    refine tk (i:=33) (oi:=⟨some 60,_,_,_,_,_⟩) (v:=undef) rfl (by kernel_rfl) (fun _ _ _ h=>h) (Or.inr ⟨by rfl,rfl⟩) hHeld ?rc33
    (try simp only [Act.put,sx])
    refine tk (i:=34) (oi:=⟨some 61,_,_,_,_,_⟩) (v:=undef) rfl (by kernel_rfl) (fun _ _ _ h=>h) (Or.inr ⟨by rfl,rfl⟩) hHeld ?rc34
    (try simp only [Act.put,sx])
    refine tk (i:=35) (oi:=⟨some 62,_,_,_,_,_⟩) (v:=undef) rfl (by kernel_rfl) (fun _ _ _ h=>h) (Or.inr ⟨by rfl,rfl⟩) hHeld ?rc35
    (try simp only [Act.put,sx])
    refine tk (i:=36) (oi:=⟨some 63,_,_,_,_,_⟩) (v:=?vc36) rfl (by kernel_rfl) (fun _ _ _ h=>h) (Or.inl ⟨by rfl,?hc36⟩) hHeld ?rc36
    case hc36=>(intro w hSw;(try dsimp only at hSw);go_simp;(try with_reducible rfl))
    (try simp only [Act.put,sx])
    refine tk (i:=37) (oi:=⟨some 64,_,_,_,_,_⟩) (v:=?vc37) rfl (by kernel_rfl) (fun _ _ _ h=>h) (Or.inl ⟨by rfl,?hc37⟩) hHeld ?rc37
    case hc37=>(intro w hSw;(try dsimp only at hSw);go_simp;(try with_reducible rfl))
    (try simp only [Act.put,sx])
    refine tk (i:=38) (oi:=⟨some 65,_,_,_,_,_⟩) (v:=?vc38) rfl (by kernel_rfl) (fun _ _ _ h=>h) (Or.inl ⟨by rfl,?hc38⟩) hHeld ?rc38
    case hc38=>(intro w hSw;(try dsimp only at hSw);go_simp;(try with_reducible rfl))
    (try simp only [Act.put,sx])
    refine tk (i:=39) (oi:=⟨some 66,_,_,_,_,_⟩) (v:=?vc39) rfl (by kernel_rfl) (fun _ _ _ h=>h) (Or.inl ⟨by rfl,?hc39⟩) hHeld ?rc39
    case hc39=>(intro w hSw;(try dsimp only at hSw);go_simp;(try with_reducible rfl))
    (try simp only [Act.put,sx])
    refine tk (i:=40) (oi:=⟨some 67,_,_,_,_,_⟩) (v:=?vc40) rfl (by kernel_rfl) (fun _ _ _ h=>h) (Or.inl ⟨by rfl,?hc40⟩) hHeld ?rc40
    case hc40=>(intro w hSw;(try dsimp only at hSw);go_simp;(try with_reducible rfl))
    (try simp only [Act.put,sx])
    refine tk (i:=41) (oi:=⟨some 68,_,_,_,_,_⟩) (v:=?vc41) rfl (by kernel_rfl) (fun _ _ _ h=>h) (Or.inl ⟨by rfl,?hc41⟩) hHeld ?rc41
    case hc41=>(intro w hSw;(try dsimp only at hSw);go_simp;(try with_reducible rfl))
    (try simp only [Act.put,sx])
    refine tk (i:=42) (oi:=⟨some 69,_,_,_,_,_⟩) (v:=?vc42) rfl (by kernel_rfl) (fun _ _ _ h=>h) (Or.inl ⟨by rfl,?hc42⟩) hHeld ?rc42
    case hc42=>(intro w hSw;(try dsimp only at hSw);go_simp;(try with_reducible rfl))
    (try simp only [Act.put,sx])
    refine tk (i:=43) (oi:=⟨some 70,_,_,_,_,_⟩) (v:=?vc43) rfl (by kernel_rfl) (fun _ _ _ h=>h) (Or.inl ⟨by rfl,?hc43⟩) hHeld ?rc43
    case hc43=>(intro w hSw;(try dsimp only at hSw);go_simp;(try with_reducible rfl))
    (try simp only [Act.put,sx])
    refine tk (i:=44) (oi:=⟨some 71,_,_,_,_,_⟩) (v:=?vc44) rfl (by kernel_rfl) (fun _ _ _ h=>h) (Or.inl ⟨by rfl,?hc44⟩) hHeld ?rc44
    case hc44=>(intro w hSw;(try dsimp only at hSw);go_simp;(try with_reducible rfl))
    (try simp only [Act.put,sx])
    refine tk (i:=45) (oi:=⟨some 72,_,_,_,_,_⟩) (v:=?vc45) rfl (by kernel_rfl) (fun _ _ _ h=>h) (Or.inl ⟨by rfl,?hc45⟩) hHeld ?rc45
    case hc45=>(intro w hSw;(try dsimp only at hSw);go_simp;(try with_reducible rfl))
    (try simp only [Act.put,sx])
    refine tk (i:=46) (oi:=⟨some 73,_,_,_,_,_⟩) (v:=?vc46) rfl (by kernel_rfl) (fun _ _ _ h=>h) (Or.inl ⟨by rfl,?hc46⟩) hHeld ?rc46
    case hc46=>(intro w hSw;(try dsimp only at hSw);go_simp;(try with_reducible rfl))
    (try simp only [Act.put,sx])
    refine tk (i:=47) (oi:=⟨some 74,_,_,_,_,_⟩) (v:=?vc47) rfl (by kernel_rfl) (fun _ _ _ h=>h) (Or.inl ⟨by rfl,?hc47⟩) hHeld ?rc47
    case hc47=>(intro w hSw;(try dsimp only at hSw);go_simp;(try with_reducible rfl))
    (try simp only [Act.put,sx])
    refine tk (i:=48) (oi:=⟨some 75,_,_,_,_,_⟩) (v:=?vc48) rfl (by kernel_rfl) (fun _ _ _ h=>h) (Or.inl ⟨by rfl,?hc48⟩) hHeld ?rc48
    case hc48=>(intro w hSw;(try dsimp only at hSw);go_simp;(try with_reducible rfl))
    (try simp only [Act.put,sx])
    refine tk (i:=49) (oi:=⟨some 76,_,_,_,_,_⟩) (v:=undef) rfl (by kernel_rfl) (fun _ _ _ h=>h) (Or.inr ⟨by rfl,rfl⟩) hHeld ?rc49
    (try simp only [Act.put,sx])
    refine tk (i:=50) (oi:=⟨some 77,_,_,_,_,_⟩) (v:=undef) rfl (by kernel_rfl) (fun _ _ _ h=>h) (Or.inr ⟨by rfl,rfl⟩) hHeld ?rc50
    (try simp only [Act.put,sx])
    refine tk (i:=51) (oi:=⟨some 78,_,_,_,_,_⟩) (v:=undef) rfl (by kernel_rfl) (fun _ _ _ h=>h) (Or.inr ⟨by rfl,rfl⟩) hHeld ?rc51
    (try simp only [Act.put,sx])
    refine tk (i:=52) (oi:=⟨some 79,_,_,_,_,_⟩) (v:=undef) rfl (by kernel_rfl) (fun _ _ _ h=>h) (Or.inr ⟨by rfl,rfl⟩) hHeld ?rc52
    (try simp only [Act.put,sx])
    refine tk (i:=53) (oi:=⟨some 80,_,_,_,_,_⟩) (v:=undef) rfl (by kernel_rfl) (fun _ _ _ h=>h) (Or.inr ⟨by rfl,rfl⟩) hHeld ?rc53
    (try simp only [Act.put,sx])
    refine tk (i:=54) (oi:=⟨some 81,_,_,_,_,_⟩) (v:=undef) rfl (by kernel_rfl) (fun _ _ _ h=>h) (Or.inr ⟨by rfl,rfl⟩) hHeld ?rc54
    (try simp only [Act.put,sx])
    refine tk (i:=55) (oi:=⟨some 82,_,_,_,_,_⟩) (v:=undef) rfl (by kernel_rfl) (fun _ _ _ h=>h) (Or.inr ⟨by rfl,rfl⟩) hHeld ?rc55
    (try simp only [Act.put,sx])
    refine tk (i:=56) (oi:=⟨some 83,_,_,_,_,_⟩) (v:=undef) rfl (by kernel_rfl) (fun _ _ _ h=>h) (Or.inr ⟨by rfl,rfl⟩) hHeld ?rc56
    (try simp only [Act.put,sx])
    refine tk (i:=57) (oi:=⟨some 84,_,_,_,_,_⟩) (v:=undef) rfl (by kernel_rfl) (fun _ _ _ h=>h) (Or.inr ⟨by rfl,rfl⟩) hHeld ?rc57
    (try simp only [Act.put,sx])
    refine tk (i:=58) (oi:=⟨some 85,_,_,_,_,_⟩) (v:=undef) rfl (by kernel_rfl) (fun _ _ _ h=>h) (Or.inr ⟨by rfl,rfl⟩) hHeld ?rc58
    (try simp only [Act.put,sx])
    refine tk (i:=59) (oi:=⟨some 86,_,_,_,_,_⟩) (v:=undef) rfl (by kernel_rfl) (fun _ _ _ h=>h) (Or.inr ⟨by rfl,rfl⟩) hHeld ?rc59
    (try simp only [Act.put,sx])
    refine tk (i:=60) (oi:=⟨some 87,_,_,_,_,_⟩) (v:=undef) rfl (by kernel_rfl) (fun _ _ _ h=>h) (Or.inr ⟨by rfl,rfl⟩) hHeld ?rc60
    (try simp only [Act.put,sx])
    refine tk (i:=61) (oi:=⟨some 88,_,_,_,_,_⟩) (v:=undef) rfl (by kernel_rfl) (fun _ _ _ h=>h) (Or.inr ⟨by rfl,rfl⟩) hHeld ?rc61
    (try simp only [Act.put,sx])
    refine tk (i:=62) (oi:=⟨some 89,_,_,_,_,_⟩) (v:=?vc62) rfl (by kernel_rfl) (fun _ _ _ h=>h) (Or.inl ⟨by rfl,?hc62⟩) hHeld ?rc62
    case hc62=>(intro w hSw;(try dsimp only at hSw);go_simp;(try with_reducible rfl))
    (try simp only [Act.put,sx])
    refine wpAnyH_done (by kernel_rfl) ?_ _;go_wp2_with fail;go_meet;exact ⟨by rw [HE.out],endB FF⟩
  | false=>
    cases h0:decide (0<=q) with
    | false=>
      have HE:Hid (C=false):=by show _=_;rw [HC.out];simp [hR,hf,ho1,ho2,hN,h0]
      refine wp_region_held_drew (S:=(fun W=>W.cell? ⟨w.heap.size,0,none⟩=some (.int .i64 op)/\W.cell? ⟨w.heap.size,1,none⟩=some (.int .i64 n)/\W.cell? ⟨w.heap.size,2,none⟩=some (.string mod)/\W.cell? ⟨w.heap.size,3,none⟩=some (.string name)/\W.cell? ⟨w.heap.size,4,none⟩=some (.slice aa l.length cap))) (by kernel_rfl) ?_ (fun hHeld=>?_)
      . (try dsimp only);go_keep
      refine tk (i:=0) (oi:=⟨some 27,_,_,_,_,_⟩) (v:=?vd0) rfl (by kernel_rfl) (fun _ _ _ h=>h) (Or.inl ⟨by rfl,?hd0⟩) hHeld ?rd0
      case hd0=>(intro w hSw;(try dsimp only at hSw);go_simp;(try with_reducible rfl))
      (try simp only [Act.put,sx])
      refine tk (i:=1) (oi:=⟨some 28,_,_,_,_,_⟩) (v:=?vd1) rfl (by kernel_rfl) (fun _ _ _ h=>h) (Or.inl ⟨by rfl,?hd1⟩) hHeld ?rd1
      case hd1=>(intro w hSw;(try dsimp only at hSw);go_simp;(try with_reducible rfl))
      (try simp only [Act.put,sx])
      refine wpAnyH_ready (rs:=[2]) (by kernel_rfl) (by simp) ?_;refine AllReadyH.cons rfl (fun K hK=>?_) AllReadyH.nil;go_simp
      go_wp2_with (go_at_call 259;refine (exprRef_at hR _).mono ?_;rintro e w' ⟨rfl,rfl⟩)
      refine hK.out _ _ hHeld (fun hHeld=>?_);clear hK K;refine tk (i:=3) (oi:=⟨some 30,_,_,_,_,_⟩) (v:=?vd3) rfl (by kernel_rfl) (fun _ _ _ h=>h) (Or.inl ⟨by rfl,?hd3⟩) hHeld ?rd3
      case hd3=>(intro w hSw;(try dsimp only at hSw);go_simp;(try with_reducible rfl))
      (try simp only [Act.put,sx])
      refine tk (i:=4) (oi:=⟨some 31,_,_,_,_,_⟩) (v:=?vd4) rfl (by kernel_rfl) (fun _ _ _ h=>h) (Or.inl ⟨by rfl,?hd4⟩) hHeld ?rd4
      case hd4=>(intro w hSw;(try dsimp only at hSw);go_simp;(try with_reducible rfl))
      (try simp only [Act.put,sx])
      refine tk (i:=5) (oi:=⟨some 32,_,_,_,_,_⟩) (v:=?vd5) rfl (by kernel_rfl) (fun _ _ _ h=>h) (Or.inl ⟨by rfl,?hd5⟩) hHeld ?rd5
      case hd5=>(intro w hSw;(try dsimp only at hSw);go_simp;(try with_reducible rfl))
      (try simp only [Act.put,sx])
      refine tk (i:=6) (oi:=⟨some 33,_,_,_,_,_⟩) (v:=?vd6) rfl (by kernel_rfl) (fun _ _ _ h=>h) (Or.inl ⟨by rfl,?hd6⟩) hHeld ?rd6
      case hd6=>(intro w hSw;(try dsimp only at hSw);go_simp;(try with_reducible rfl))
      (try simp only [Act.put,sx])
      refine tk (i:=7) (oi:=⟨some 34,_,_,_,_,_⟩) (v:=?vd7) rfl (by kernel_rfl) (fun _ _ _ h=>h) (Or.inl ⟨by rfl,?hd7⟩) hHeld ?rd7
      case hd7=>(intro w hSw;(try dsimp only at hSw);go_simp;(try with_reducible rfl))
      (try simp only [Act.put,sx])
      refine wpAnyH_ready (rs:=[8]) (by kernel_rfl) (by simp) ?_;refine AllReadyH.cons rfl (fun K hK=>?_) AllReadyH.nil;go_simp
      go_wp2_with (go_at_call 245;refine (refFine_at hf _ HWm.out HWn.out).mono ?_;rintro e w' ⟨rfl,hb⟩)
      have FF:=bx5 HBx HBz hb;clear hb;refine hK.out _ _ FF.out.2 (fun hHeld=>?_);clear hK K;refine tk (i:=9) (oi:=⟨some 36,_,_,_,_,_⟩) (v:=?vd9) rfl (by kernel_rfl) (fun _ _ _ h=>h) (Or.inl ⟨by rfl,?hd9⟩) hHeld ?rd9
      case hd9=>(intro w hSw;(try dsimp only at hSw);go_simp;(try with_reducible rfl))
      (try simp only [Act.put,sx])
      refine tk (i:=10) (oi:=⟨some 37,_,_,_,_,_⟩) (v:=?vd10) rfl (by kernel_rfl) (fun _ _ _ h=>h) (Or.inl ⟨by rfl,?hd10⟩) hHeld ?rd10
      case hd10=>(intro w hSw;(try dsimp only at hSw);go_simp;(try with_reducible rfl))
      (try simp only [Act.put,sx])
      refine tk (i:=11) (oi:=⟨some 38,_,_,_,_,_⟩) (v:=?vd11) rfl (by kernel_rfl) (fun _ _ _ h=>h) (Or.inl ⟨by rfl,?hd11⟩) hHeld ?rd11
      case hd11=>(intro w hSw;(try dsimp only at hSw);go_simp;(try with_reducible rfl))
      (try simp only [Act.put,sx])
      refine tk (i:=12) (oi:=⟨some 39,_,_,_,_,_⟩) (v:=?vd12) rfl (by kernel_rfl) (fun _ _ _ h=>h) (Or.inl ⟨by rfl,?hd12⟩) hHeld ?rd12
      case hd12=>(intro w hSw;(try dsimp only at hSw);go_simp;(try with_reducible rfl))
      (try simp only [Act.put,sx])
      refine tk (i:=13) (oi:=⟨some 40,_,_,_,_,_⟩) (v:=?vd13) rfl (by kernel_rfl) (fun _ _ _ h=>h) (Or.inl ⟨by rfl,?hd13⟩) hHeld ?rd13
      case hd13=>(intro w hSw;(try dsimp only at hSw);go_simp;(try with_reducible rfl))
      (try simp only [Act.put,sx])
      refine wpAnyH_ready (rs:=[14]) (by kernel_rfl) (by simp) ?_;refine AllReadyH.cons rfl (fun K hK=>?_) AllReadyH.nil;go_simp
      go_wp2_with (go_at_call 259;refine (exprRef_at hR _).mono ?_;rintro e w' ⟨rfl,rfl⟩)
      refine hK.out _ _ hHeld (fun hHeld=>?_);clear hK K;refine tk (i:=15) (oi:=⟨some 42,_,_,_,_,_⟩) (v:=?vd15) rfl (by kernel_rfl) (fun _ _ _ h=>h) (Or.inl ⟨by rfl,?hd15⟩) hHeld ?rd15
      case hd15=>(intro w hSw;(try dsimp only at hSw);go_simp;(try with_reducible rfl))
      (try simp only [Act.put,sx])
      refine tk (i:=16) (oi:=⟨some 43,_,_,_,_,_⟩) (v:=?vd16) rfl (by kernel_rfl) (fun _ _ _ h=>h) (Or.inl ⟨by rfl,?hd16⟩) hHeld ?rd16
      case hd16=>(intro w hSw;(try dsimp only at hSw);go_simp;(try with_reducible rfl))
      (try simp only [Act.put,sx])
      refine tk (i:=17) (oi:=⟨some 44,_,_,_,_,_⟩) (v:=undef) rfl (by kernel_rfl) (fun _ _ _ h=>h) (Or.inr ⟨by rfl,rfl⟩) hHeld ?rd17
      (try simp only [Act.put,sx])
      refine tk (i:=18) (oi:=⟨some 45,_,_,_,_,_⟩) (v:=undef) rfl (by kernel_rfl) (fun _ _ _ h=>h) (Or.inr ⟨by rfl,rfl⟩) hHeld ?rd18
      (try simp only [Act.put,sx])
      refine tk (i:=19) (oi:=⟨some 46,_,_,_,_,_⟩) (v:=undef) rfl (by kernel_rfl) (fun _ _ _ h=>h) (Or.inr ⟨by rfl,rfl⟩) hHeld ?rd19
      (try simp only [Act.put,sx])
      refine tk (i:=20) (oi:=⟨some 47,_,_,_,_,_⟩) (v:=undef) rfl (by kernel_rfl) (fun _ _ _ h=>h) (Or.inr ⟨by rfl,rfl⟩) hHeld ?rd20
      (try simp only [Act.put,sx])
      refine tk (i:=21) (oi:=⟨some 48,_,_,_,_,_⟩) (v:=undef) rfl (by kernel_rfl) (fun _ _ _ h=>h) (Or.inr ⟨by rfl,rfl⟩) hHeld ?rd21
      (try simp only [Act.put,sx])
      refine tk (i:=22) (oi:=⟨some 49,_,_,_,_,_⟩) (v:=undef) rfl (by kernel_rfl) (fun _ _ _ h=>h) (Or.inr ⟨by rfl,rfl⟩) hHeld ?rd22
      (try simp only [Act.put,sx])
      refine tk (i:=23) (oi:=⟨some 50,_,_,_,_,_⟩) (v:=undef) rfl (by kernel_rfl) (fun _ _ _ h=>h) (Or.inr ⟨by rfl,rfl⟩) hHeld ?rd23
      (try simp only [Act.put,sx])
      refine tk (i:=24) (oi:=⟨some 51,_,_,_,_,_⟩) (v:=undef) rfl (by kernel_rfl) (fun _ _ _ h=>h) (Or.inr ⟨by rfl,rfl⟩) hHeld ?rd24
      (try simp only [Act.put,sx])
      refine tk (i:=25) (oi:=⟨some 52,_,_,_,_,_⟩) (v:=?vd25) rfl (by kernel_rfl) (fun _ _ _ h=>h) (Or.inl ⟨by rfl,?hd25⟩) hHeld ?rd25
      case hd25=>(intro w hSw;(try dsimp only at hSw);go_simp;(try with_reducible rfl))
      (try simp only [Act.put,sx])
      refine tk (i:=26) (oi:=⟨some 53,_,_,_,_,_⟩) (v:=?vd26) rfl (by kernel_rfl) (fun _ _ _ h=>h) (Or.inl ⟨by rfl,?hd26⟩) hHeld ?rd26
      case hd26=>(intro w hSw;(try dsimp only at hSw);go_simp;(try with_reducible rfl))
      (try simp only [Act.put,sx])
      refine tk (i:=27) (oi:=⟨some 54,_,_,_,_,_⟩) (v:=?vd27) rfl (by kernel_rfl) (fun _ _ _ h=>h) (Or.inl ⟨by rfl,?hd27⟩) hHeld ?rd27
      case hd27=>(intro w hSw;(try dsimp only at hSw);go_simp;(try with_reducible rfl))
      (try simp only [Act.put,sx])
      refine tk (i:=28) (oi:=⟨some 55,_,_,_,_,_⟩) (v:=?vd28) rfl (by kernel_rfl) (fun _ _ _ h=>h) (Or.inl ⟨by rfl,?hd28⟩) hHeld ?rd28
      case hd28=>(intro w hSw;(try dsimp only at hSw);go_simp;(try with_reducible rfl))
      (try simp only [Act.put,sx])
      refine tk (i:=29) (oi:=⟨some 56,_,_,_,_,_⟩) (v:=?vd29) rfl (by kernel_rfl) (fun _ _ _ h=>h) (Or.inl ⟨by rfl,?hd29⟩) hHeld ?rd29
      case hd29=>(intro w hSw;(try dsimp only at hSw);go_simp;(try with_reducible rfl))
      (try simp only [Act.put,sx])
      refine tk (i:=30) (oi:=⟨some 57,_,_,_,_,_⟩) (v:=?vd30) rfl (by kernel_rfl) (fun _ _ _ h=>h) (Or.inl ⟨by rfl,?hd30⟩) hHeld ?rd30
      case hd30=>(intro w hSw;(try dsimp only at hSw);go_simp;(try with_reducible rfl))
      (try simp only [Act.put,sx])
      refine tk (i:=31) (oi:=⟨some 58,_,_,_,_,_⟩) (v:=?vd31) rfl (by kernel_rfl) (fun _ _ _ h=>h) (Or.inl ⟨by rfl,?hd31⟩) hHeld ?rd31
      case hd31=>(intro w hSw;(try dsimp only at hSw);go_simp;(try with_reducible rfl))
      (try simp only [Act.put,sx])
      refine tk (i:=32) (oi:=⟨some 59,_,_,_,_,_⟩) (v:=undef) rfl (by kernel_rfl) (fun _ _ _ h=>h) (Or.inr ⟨by rfl,rfl⟩) hHeld ?rd32
      (try simp only [Act.put,sx])
      refine tk (i:=33) (oi:=⟨some 60,_,_,_,_,_⟩) (v:=undef) rfl (by kernel_rfl) (fun _ _ _ h=>h) (Or.inr ⟨by rfl,rfl⟩) hHeld ?rd33
      (try simp only [Act.put,sx])
      refine tk (i:=34) (oi:=⟨some 61,_,_,_,_,_⟩) (v:=undef) rfl (by kernel_rfl) (fun _ _ _ h=>h) (Or.inr ⟨by rfl,rfl⟩) hHeld ?rd34
      (try simp only [Act.put,sx])
      refine tk (i:=35) (oi:=⟨some 62,_,_,_,_,_⟩) (v:=undef) rfl (by kernel_rfl) (fun _ _ _ h=>h) (Or.inr ⟨by rfl,rfl⟩) hHeld ?rd35
      (try simp only [Act.put,sx])
      refine tk (i:=36) (oi:=⟨some 63,_,_,_,_,_⟩) (v:=?vd36) rfl (by kernel_rfl) (fun _ _ _ h=>h) (Or.inl ⟨by rfl,?hd36⟩) hHeld ?rd36
      case hd36=>(intro w hSw;(try dsimp only at hSw);go_simp;(try with_reducible rfl))
      (try simp only [Act.put,sx])
      refine tk (i:=37) (oi:=⟨some 64,_,_,_,_,_⟩) (v:=?vd37) rfl (by kernel_rfl) (fun _ _ _ h=>h) (Or.inl ⟨by rfl,?hd37⟩) hHeld ?rd37
      case hd37=>(intro w hSw;(try dsimp only at hSw);go_simp;(try with_reducible rfl))
      (try simp only [Act.put,sx])
      refine tk (i:=38) (oi:=⟨some 65,_,_,_,_,_⟩) (v:=?vd38) rfl (by kernel_rfl) (fun _ _ _ h=>h) (Or.inl ⟨by rfl,?hd38⟩) hHeld ?rd38
      case hd38=>(intro w hSw;(try dsimp only at hSw);go_simp;(try with_reducible rfl))
      (try simp only [Act.put,sx])
      refine tk (i:=39) (oi:=⟨some 66,_,_,_,_,_⟩) (v:=?vd39) rfl (by kernel_rfl) (fun _ _ _ h=>h) (Or.inl ⟨by rfl,?hd39⟩) hHeld ?rd39
      case hd39=>(intro w hSw;(try dsimp only at hSw);go_simp;(try with_reducible rfl))
      (try simp only [Act.put,sx])
      refine tk (i:=40) (oi:=⟨some 67,_,_,_,_,_⟩) (v:=?vd40) rfl (by kernel_rfl) (fun _ _ _ h=>h) (Or.inl ⟨by rfl,?hd40⟩) hHeld ?rd40
      case hd40=>(intro w hSw;(try dsimp only at hSw);go_simp;(try with_reducible rfl))
      (try simp only [Act.put,sx])
      refine tk (i:=41) (oi:=⟨some 68,_,_,_,_,_⟩) (v:=?vd41) rfl (by kernel_rfl) (fun _ _ _ h=>h) (Or.inl ⟨by rfl,?hd41⟩) hHeld ?rd41
      case hd41=>(intro w hSw;(try dsimp only at hSw);go_simp;(try with_reducible rfl))
      (try simp only [Act.put,sx])
      refine tk (i:=42) (oi:=⟨some 69,_,_,_,_,_⟩) (v:=?vd42) rfl (by kernel_rfl) (fun _ _ _ h=>h) (Or.inl ⟨by rfl,?hd42⟩) hHeld ?rd42
      case hd42=>(intro w hSw;(try dsimp only at hSw);go_simp;(try with_reducible rfl))
      (try simp only [Act.put,sx])
      refine tk (i:=43) (oi:=⟨some 70,_,_,_,_,_⟩) (v:=?vd43) rfl (by kernel_rfl) (fun _ _ _ h=>h) (Or.inl ⟨by rfl,?hd43⟩) hHeld ?rd43
      case hd43=>(intro w hSw;(try dsimp only at hSw);go_simp;(try with_reducible rfl))
      (try simp only [Act.put,sx])
      refine tk (i:=44) (oi:=⟨some 71,_,_,_,_,_⟩) (v:=?vd44) rfl (by kernel_rfl) (fun _ _ _ h=>h) (Or.inl ⟨by rfl,?hd44⟩) hHeld ?rd44
      case hd44=>(intro w hSw;(try dsimp only at hSw);go_simp;(try with_reducible rfl))
      (try simp only [Act.put,sx])
      refine tk (i:=45) (oi:=⟨some 72,_,_,_,_,_⟩) (v:=?vd45) rfl (by kernel_rfl) (fun _ _ _ h=>h) (Or.inl ⟨by rfl,?hd45⟩) hHeld ?rd45
      case hd45=>(intro w hSw;(try dsimp only at hSw);go_simp;(try with_reducible rfl))
      (try simp only [Act.put,sx])
      refine tk (i:=46) (oi:=⟨some 73,_,_,_,_,_⟩) (v:=?vd46) rfl (by kernel_rfl) (fun _ _ _ h=>h) (Or.inl ⟨by rfl,?hd46⟩) hHeld ?rd46
      case hd46=>(intro w hSw;(try dsimp only at hSw);go_simp;(try with_reducible rfl))
      (try simp only [Act.put,sx])
      refine tk (i:=47) (oi:=⟨some 74,_,_,_,_,_⟩) (v:=?vd47) rfl (by kernel_rfl) (fun _ _ _ h=>h) (Or.inl ⟨by rfl,?hd47⟩) hHeld ?rd47
      case hd47=>(intro w hSw;(try dsimp only at hSw);go_simp;(try with_reducible rfl))
      (try simp only [Act.put,sx])
      refine tk (i:=48) (oi:=⟨some 75,_,_,_,_,_⟩) (v:=?vd48) rfl (by kernel_rfl) (fun _ _ _ h=>h) (Or.inl ⟨by rfl,?hd48⟩) hHeld ?rd48
      case hd48=>(intro w hSw;(try dsimp only at hSw);go_simp;(try with_reducible rfl))
      (try simp only [Act.put,sx])
      refine tk (i:=49) (oi:=⟨some 76,_,_,_,_,_⟩) (v:=?vd49) rfl (by kernel_rfl) (fun _ _ _ h=>h) (Or.inl ⟨by rfl,?hd49⟩) hHeld ?rd49
      case hd49=>(intro w hSw;(try dsimp only at hSw);go_simp;(try with_reducible rfl))
      (try simp only [Act.put,sx])
      refine tk (i:=50) (oi:=⟨some 77,_,_,_,_,_⟩) (v:=?vd50) rfl (by kernel_rfl) (fun _ _ _ h=>h) (Or.inl ⟨by rfl,?hd50⟩) hHeld ?rd50
      case hd50=>(intro w hSw;(try dsimp only at hSw);go_simp;(try with_reducible rfl))
      (try simp only [Act.put,sx])
      refine wpAnyH_ready (rs:=[51]) (by kernel_rfl) (by simp) ?_;refine AllReadyH.cons rfl (fun K hK=>?_) AllReadyH.nil;go_simp
      go_wp2_with (go_at_call 281;refine (exprArgs_at hq _).mono ?_;rintro e w' ⟨rfl,rfl⟩)
      refine hK.out _ _ hHeld (fun hHeld=>?_);clear hK K;refine tk (i:=52) (oi:=⟨some 79,_,_,_,_,_⟩) (v:=?vd52) rfl (by kernel_rfl) (fun _ _ _ h=>h) (Or.inl ⟨by rfl,?hd52⟩) hHeld ?rd52
      case hd52=>(intro w hSw;(try dsimp only at hSw);go_simp;(try with_reducible rfl))
      (try simp only [Act.put,sx])
      refine tk (i:=53) (oi:=⟨some 80,_,_,_,_,_⟩) (v:=?vd53) rfl (by kernel_rfl) (fun _ _ _ h=>h) (Or.inl ⟨by rfl,?hd53⟩) hHeld ?rd53
      case hd53=>(intro w hSw;(try dsimp only at hSw);go_simp;(try with_reducible rfl))
      (try simp only [Act.put,sx])
      refine tk (i:=54) (oi:=⟨some 81,_,_,_,_,_⟩) (v:=undef) rfl (by kernel_rfl) (fun _ _ _ h=>h) (Or.inr ⟨by rfl,rfl⟩) hHeld ?rd54
      (try simp only [Act.put,sx])
      refine tk (i:=55) (oi:=⟨some 82,_,_,_,_,_⟩) (v:=undef) rfl (by kernel_rfl) (fun _ _ _ h=>h) (Or.inr ⟨by rfl,rfl⟩) hHeld ?rd55
      (try simp only [Act.put,sx])
      refine tk (i:=56) (oi:=⟨some 83,_,_,_,_,_⟩) (v:=undef) rfl (by kernel_rfl) (fun _ _ _ h=>h) (Or.inr ⟨by rfl,rfl⟩) hHeld ?rd56
      (try simp only [Act.put,sx])
      refine tk (i:=57) (oi:=⟨some 84,_,_,_,_,_⟩) (v:=undef) rfl (by kernel_rfl) (fun _ _ _ h=>h) (Or.inr ⟨by rfl,rfl⟩) hHeld ?rd57
      (try simp only [Act.put,sx])
      refine tk (i:=58) (oi:=⟨some 85,_,_,_,_,_⟩) (v:=undef) rfl (by kernel_rfl) (fun _ _ _ h=>h) (Or.inr ⟨by rfl,rfl⟩) hHeld ?rd58
      (try simp only [Act.put,sx])
      refine tk (i:=59) (oi:=⟨some 86,_,_,_,_,_⟩) (v:=undef) rfl (by kernel_rfl) (fun _ _ _ h=>h) (Or.inr ⟨by rfl,rfl⟩) hHeld ?rd59
      (try simp only [Act.put,sx])
      refine tk (i:=60) (oi:=⟨some 87,_,_,_,_,_⟩) (v:=undef) rfl (by kernel_rfl) (fun _ _ _ h=>h) (Or.inr ⟨by rfl,rfl⟩) hHeld ?rd60
      (try simp only [Act.put,sx])
      refine tk (i:=61) (oi:=⟨some 88,_,_,_,_,_⟩) (v:=?vd61) rfl (by kernel_rfl) (fun _ _ _ h=>h) (Or.inl ⟨by rfl,?hd61⟩) hHeld ?rd61
      case hd61=>(intro w hSw;(try dsimp only at hSw);go_simp;(try with_reducible rfl))
      (try simp only [Act.put,sx])
      refine tk (i:=62) (oi:=⟨some 89,_,_,_,_,_⟩) (v:=?vd62) rfl (by kernel_rfl) (fun _ _ _ h=>h) (Or.inl ⟨by rfl,?hd62⟩) hHeld ?rd62
      case hd62=>(intro w hSw;(try dsimp only at hSw);go_simp;(try with_reducible rfl))
      (try simp only [Act.put,sx])
      refine wpAnyH_done (by kernel_rfl) ?_ _;go_wp2_with fail;go_meet;exact ⟨by rw [HE.out],endB FF⟩
    | true=>
      cases hl:((l.length:Int) != q) with
      | false=>
        have HE:Hid (C=false):=by show _=_;rw [HC.out];simp [hR,hf,ho1,ho2,hN,h0,hl]
        refine wp_region_held_drew (S:=(fun W=>W.cell? ⟨w.heap.size,0,none⟩=some (.int .i64 op)/\W.cell? ⟨w.heap.size,1,none⟩=some (.int .i64 n)/\W.cell? ⟨w.heap.size,2,none⟩=some (.string mod)/\W.cell? ⟨w.heap.size,3,none⟩=some (.string name)/\W.cell? ⟨w.heap.size,4,none⟩=some (.slice aa l.length cap))) (by kernel_rfl) ?_ (fun hHeld=>?_)
        . (try dsimp only);go_keep
        refine tk (i:=0) (oi:=⟨some 27,_,_,_,_,_⟩) (v:=?ve0) rfl (by kernel_rfl) (fun _ _ _ h=>h) (Or.inl ⟨by rfl,?he0⟩) hHeld ?re0
        case he0=>(intro w hSw;(try dsimp only at hSw);go_simp;(try with_reducible rfl))
        (try simp only [Act.put,sx])
        refine tk (i:=1) (oi:=⟨some 28,_,_,_,_,_⟩) (v:=?ve1) rfl (by kernel_rfl) (fun _ _ _ h=>h) (Or.inl ⟨by rfl,?he1⟩) hHeld ?re1
        case he1=>(intro w hSw;(try dsimp only at hSw);go_simp;(try with_reducible rfl))
        (try simp only [Act.put,sx])
        refine wpAnyH_ready (rs:=[2]) (by kernel_rfl) (by simp) ?_;refine AllReadyH.cons rfl (fun K hK=>?_) AllReadyH.nil;go_simp
        go_wp2_with (go_at_call 259;refine (exprRef_at hR _).mono ?_;rintro e w' ⟨rfl,rfl⟩)
        refine hK.out _ _ hHeld (fun hHeld=>?_);clear hK K;refine tk (i:=3) (oi:=⟨some 30,_,_,_,_,_⟩) (v:=?ve3) rfl (by kernel_rfl) (fun _ _ _ h=>h) (Or.inl ⟨by rfl,?he3⟩) hHeld ?re3
        case he3=>(intro w hSw;(try dsimp only at hSw);go_simp;(try with_reducible rfl))
        (try simp only [Act.put,sx])
        refine tk (i:=4) (oi:=⟨some 31,_,_,_,_,_⟩) (v:=?ve4) rfl (by kernel_rfl) (fun _ _ _ h=>h) (Or.inl ⟨by rfl,?he4⟩) hHeld ?re4
        case he4=>(intro w hSw;(try dsimp only at hSw);go_simp;(try with_reducible rfl))
        (try simp only [Act.put,sx])
        refine tk (i:=5) (oi:=⟨some 32,_,_,_,_,_⟩) (v:=?ve5) rfl (by kernel_rfl) (fun _ _ _ h=>h) (Or.inl ⟨by rfl,?he5⟩) hHeld ?re5
        case he5=>(intro w hSw;(try dsimp only at hSw);go_simp;(try with_reducible rfl))
        (try simp only [Act.put,sx])
        refine tk (i:=6) (oi:=⟨some 33,_,_,_,_,_⟩) (v:=?ve6) rfl (by kernel_rfl) (fun _ _ _ h=>h) (Or.inl ⟨by rfl,?he6⟩) hHeld ?re6
        case he6=>(intro w hSw;(try dsimp only at hSw);go_simp;(try with_reducible rfl))
        (try simp only [Act.put,sx])
        refine tk (i:=7) (oi:=⟨some 34,_,_,_,_,_⟩) (v:=?ve7) rfl (by kernel_rfl) (fun _ _ _ h=>h) (Or.inl ⟨by rfl,?he7⟩) hHeld ?re7
        case he7=>(intro w hSw;(try dsimp only at hSw);go_simp;(try with_reducible rfl))
        (try simp only [Act.put,sx])
        refine wpAnyH_ready (rs:=[8]) (by kernel_rfl) (by simp) ?_;refine AllReadyH.cons rfl (fun K hK=>?_) AllReadyH.nil;go_simp
        go_wp2_with (go_at_call 245;refine (refFine_at hf _ HWm.out HWn.out).mono ?_;rintro e w' ⟨rfl,hb⟩)
        have FF:=bx5 HBx HBz hb;clear hb;refine hK.out _ _ FF.out.2 (fun hHeld=>?_);clear hK K;refine tk (i:=9) (oi:=⟨some 36,_,_,_,_,_⟩) (v:=?ve9) rfl (by kernel_rfl) (fun _ _ _ h=>h) (Or.inl ⟨by rfl,?he9⟩) hHeld ?re9
        case he9=>(intro w hSw;(try dsimp only at hSw);go_simp;(try with_reducible rfl))
        (try simp only [Act.put,sx])
        refine tk (i:=10) (oi:=⟨some 37,_,_,_,_,_⟩) (v:=?ve10) rfl (by kernel_rfl) (fun _ _ _ h=>h) (Or.inl ⟨by rfl,?he10⟩) hHeld ?re10
        case he10=>(intro w hSw;(try dsimp only at hSw);go_simp;(try with_reducible rfl))
        (try simp only [Act.put,sx])
        refine tk (i:=11) (oi:=⟨some 38,_,_,_,_,_⟩) (v:=?ve11) rfl (by kernel_rfl) (fun _ _ _ h=>h) (Or.inl ⟨by rfl,?he11⟩) hHeld ?re11
        case he11=>(intro w hSw;(try dsimp only at hSw);go_simp;(try with_reducible rfl))
        (try simp only [Act.put,sx])
        refine tk (i:=12) (oi:=⟨some 39,_,_,_,_,_⟩) (v:=?ve12) rfl (by kernel_rfl) (fun _ _ _ h=>h) (Or.inl ⟨by rfl,?he12⟩) hHeld ?re12
        case he12=>(intro w hSw;(try dsimp only at hSw);go_simp;(try with_reducible rfl))
        (try simp only [Act.put,sx])
        refine tk (i:=13) (oi:=⟨some 40,_,_,_,_,_⟩) (v:=?ve13) rfl (by kernel_rfl) (fun _ _ _ h=>h) (Or.inl ⟨by rfl,?he13⟩) hHeld ?re13
        case he13=>(intro w hSw;(try dsimp only at hSw);go_simp;(try with_reducible rfl))
        (try simp only [Act.put,sx])
        refine wpAnyH_ready (rs:=[14]) (by kernel_rfl) (by simp) ?_;refine AllReadyH.cons rfl (fun K hK=>?_) AllReadyH.nil;go_simp
        go_wp2_with (go_at_call 259;refine (exprRef_at hR _).mono ?_;rintro e w' ⟨rfl,rfl⟩)
        refine hK.out _ _ hHeld (fun hHeld=>?_);clear hK K;refine tk (i:=15) (oi:=⟨some 42,_,_,_,_,_⟩) (v:=?ve15) rfl (by kernel_rfl) (fun _ _ _ h=>h) (Or.inl ⟨by rfl,?he15⟩) hHeld ?re15
        case he15=>(intro w hSw;(try dsimp only at hSw);go_simp;(try with_reducible rfl))
        (try simp only [Act.put,sx])
        refine tk (i:=16) (oi:=⟨some 43,_,_,_,_,_⟩) (v:=?ve16) rfl (by kernel_rfl) (fun _ _ _ h=>h) (Or.inl ⟨by rfl,?he16⟩) hHeld ?re16
        case he16=>(intro w hSw;(try dsimp only at hSw);go_simp;(try with_reducible rfl))
        (try simp only [Act.put,sx])
        refine tk (i:=17) (oi:=⟨some 44,_,_,_,_,_⟩) (v:=undef) rfl (by kernel_rfl) (fun _ _ _ h=>h) (Or.inr ⟨by rfl,rfl⟩) hHeld ?re17
        (try simp only [Act.put,sx])
        refine tk (i:=18) (oi:=⟨some 45,_,_,_,_,_⟩) (v:=undef) rfl (by kernel_rfl) (fun _ _ _ h=>h) (Or.inr ⟨by rfl,rfl⟩) hHeld ?re18
        (try simp only [Act.put,sx])
        refine tk (i:=19) (oi:=⟨some 46,_,_,_,_,_⟩) (v:=undef) rfl (by kernel_rfl) (fun _ _ _ h=>h) (Or.inr ⟨by rfl,rfl⟩) hHeld ?re19
        (try simp only [Act.put,sx])
        refine tk (i:=20) (oi:=⟨some 47,_,_,_,_,_⟩) (v:=undef) rfl (by kernel_rfl) (fun _ _ _ h=>h) (Or.inr ⟨by rfl,rfl⟩) hHeld ?re20
        (try simp only [Act.put,sx])
        refine tk (i:=21) (oi:=⟨some 48,_,_,_,_,_⟩) (v:=undef) rfl (by kernel_rfl) (fun _ _ _ h=>h) (Or.inr ⟨by rfl,rfl⟩) hHeld ?re21
        (try simp only [Act.put,sx])
        refine tk (i:=22) (oi:=⟨some 49,_,_,_,_,_⟩) (v:=undef) rfl (by kernel_rfl) (fun _ _ _ h=>h) (Or.inr ⟨by rfl,rfl⟩) hHeld ?re22
        (try simp only [Act.put,sx])
        refine tk (i:=23) (oi:=⟨some 50,_,_,_,_,_⟩) (v:=undef) rfl (by kernel_rfl) (fun _ _ _ h=>h) (Or.inr ⟨by rfl,rfl⟩) hHeld ?re23
        (try simp only [Act.put,sx])
        refine tk (i:=24) (oi:=⟨some 51,_,_,_,_,_⟩) (v:=undef) rfl (by kernel_rfl) (fun _ _ _ h=>h) (Or.inr ⟨by rfl,rfl⟩) hHeld ?re24
        (try simp only [Act.put,sx])
        refine tk (i:=25) (oi:=⟨some 52,_,_,_,_,_⟩) (v:=?ve25) rfl (by kernel_rfl) (fun _ _ _ h=>h) (Or.inl ⟨by rfl,?he25⟩) hHeld ?re25
        case he25=>(intro w hSw;(try dsimp only at hSw);go_simp;(try with_reducible rfl))
        (try simp only [Act.put,sx])
        refine tk (i:=26) (oi:=⟨some 53,_,_,_,_,_⟩) (v:=?ve26) rfl (by kernel_rfl) (fun _ _ _ h=>h) (Or.inl ⟨by rfl,?he26⟩) hHeld ?re26
        case he26=>(intro w hSw;(try dsimp only at hSw);go_simp;(try with_reducible rfl))
        (try simp only [Act.put,sx])
        refine tk (i:=27) (oi:=⟨some 54,_,_,_,_,_⟩) (v:=?ve27) rfl (by kernel_rfl) (fun _ _ _ h=>h) (Or.inl ⟨by rfl,?he27⟩) hHeld ?re27
        case he27=>(intro w hSw;(try dsimp only at hSw);go_simp;(try with_reducible rfl))
        (try simp only [Act.put,sx])
        refine tk (i:=28) (oi:=⟨some 55,_,_,_,_,_⟩) (v:=?ve28) rfl (by kernel_rfl) (fun _ _ _ h=>h) (Or.inl ⟨by rfl,?he28⟩) hHeld ?re28
        case he28=>(intro w hSw;(try dsimp only at hSw);go_simp;(try with_reducible rfl))
        (try simp only [Act.put,sx])
        refine tk (i:=29) (oi:=⟨some 56,_,_,_,_,_⟩) (v:=?ve29) rfl (by kernel_rfl) (fun _ _ _ h=>h) (Or.inl ⟨by rfl,?he29⟩) hHeld ?re29
        case he29=>(intro w hSw;(try dsimp only at hSw);go_simp;(try with_reducible rfl))
        (try simp only [Act.put,sx])
        refine tk (i:=30) (oi:=⟨some 57,_,_,_,_,_⟩) (v:=?ve30) rfl (by kernel_rfl) (fun _ _ _ h=>h) (Or.inl ⟨by rfl,?he30⟩) hHeld ?re30
        case he30=>(intro w hSw;(try dsimp only at hSw);go_simp;(try with_reducible rfl))
        (try simp only [Act.put,sx])
        refine tk (i:=31) (oi:=⟨some 58,_,_,_,_,_⟩) (v:=?ve31) rfl (by kernel_rfl) (fun _ _ _ h=>h) (Or.inl ⟨by rfl,?he31⟩) hHeld ?re31
        case he31=>(intro w hSw;(try dsimp only at hSw);go_simp;(try with_reducible rfl))
        (try simp only [Act.put,sx])
        refine tk (i:=32) (oi:=⟨some 59,_,_,_,_,_⟩) (v:=undef) rfl (by kernel_rfl) (fun _ _ _ h=>h) (Or.inr ⟨by rfl,rfl⟩) hHeld ?re32
        (try simp only [Act.put,sx])
        refine tk (i:=33) (oi:=⟨some 60,_,_,_,_,_⟩) (v:=undef) rfl (by kernel_rfl) (fun _ _ _ h=>h) (Or.inr ⟨by rfl,rfl⟩) hHeld ?re33
        (try simp only [Act.put,sx])
        refine tk (i:=34) (oi:=⟨some 61,_,_,_,_,_⟩) (v:=undef) rfl (by kernel_rfl) (fun _ _ _ h=>h) (Or.inr ⟨by rfl,rfl⟩) hHeld ?re34
        (try simp only [Act.put,sx])
        refine tk (i:=35) (oi:=⟨some 62,_,_,_,_,_⟩) (v:=undef) rfl (by kernel_rfl) (fun _ _ _ h=>h) (Or.inr ⟨by rfl,rfl⟩) hHeld ?re35
        (try simp only [Act.put,sx])
        refine tk (i:=36) (oi:=⟨some 63,_,_,_,_,_⟩) (v:=?ve36) rfl (by kernel_rfl) (fun _ _ _ h=>h) (Or.inl ⟨by rfl,?he36⟩) hHeld ?re36
        case he36=>(intro w hSw;(try dsimp only at hSw);go_simp;(try with_reducible rfl))
        (try simp only [Act.put,sx])
        refine tk (i:=37) (oi:=⟨some 64,_,_,_,_,_⟩) (v:=?ve37) rfl (by kernel_rfl) (fun _ _ _ h=>h) (Or.inl ⟨by rfl,?he37⟩) hHeld ?re37
        case he37=>(intro w hSw;(try dsimp only at hSw);go_simp;(try with_reducible rfl))
        (try simp only [Act.put,sx])
        refine tk (i:=38) (oi:=⟨some 65,_,_,_,_,_⟩) (v:=?ve38) rfl (by kernel_rfl) (fun _ _ _ h=>h) (Or.inl ⟨by rfl,?he38⟩) hHeld ?re38
        case he38=>(intro w hSw;(try dsimp only at hSw);go_simp;(try with_reducible rfl))
        (try simp only [Act.put,sx])
        refine tk (i:=39) (oi:=⟨some 66,_,_,_,_,_⟩) (v:=?ve39) rfl (by kernel_rfl) (fun _ _ _ h=>h) (Or.inl ⟨by rfl,?he39⟩) hHeld ?re39
        case he39=>(intro w hSw;(try dsimp only at hSw);go_simp;(try with_reducible rfl))
        (try simp only [Act.put,sx])
        refine tk (i:=40) (oi:=⟨some 67,_,_,_,_,_⟩) (v:=?ve40) rfl (by kernel_rfl) (fun _ _ _ h=>h) (Or.inl ⟨by rfl,?he40⟩) hHeld ?re40
        case he40=>(intro w hSw;(try dsimp only at hSw);go_simp;(try with_reducible rfl))
        (try simp only [Act.put,sx])
        refine tk (i:=41) (oi:=⟨some 68,_,_,_,_,_⟩) (v:=?ve41) rfl (by kernel_rfl) (fun _ _ _ h=>h) (Or.inl ⟨by rfl,?he41⟩) hHeld ?re41
        case he41=>(intro w hSw;(try dsimp only at hSw);go_simp;(try with_reducible rfl))
        (try simp only [Act.put,sx])
        refine tk (i:=42) (oi:=⟨some 69,_,_,_,_,_⟩) (v:=?ve42) rfl (by kernel_rfl) (fun _ _ _ h=>h) (Or.inl ⟨by rfl,?he42⟩) hHeld ?re42
        case he42=>(intro w hSw;(try dsimp only at hSw);go_simp;(try with_reducible rfl))
        (try simp only [Act.put,sx])
        refine tk (i:=43) (oi:=⟨some 70,_,_,_,_,_⟩) (v:=?ve43) rfl (by kernel_rfl) (fun _ _ _ h=>h) (Or.inl ⟨by rfl,?he43⟩) hHeld ?re43
        case he43=>(intro w hSw;(try dsimp only at hSw);go_simp;(try with_reducible rfl))
        (try simp only [Act.put,sx])
        refine tk (i:=44) (oi:=⟨some 71,_,_,_,_,_⟩) (v:=?ve44) rfl (by kernel_rfl) (fun _ _ _ h=>h) (Or.inl ⟨by rfl,?he44⟩) hHeld ?re44
        case he44=>(intro w hSw;(try dsimp only at hSw);go_simp;(try with_reducible rfl))
        (try simp only [Act.put,sx])
        refine tk (i:=45) (oi:=⟨some 72,_,_,_,_,_⟩) (v:=?ve45) rfl (by kernel_rfl) (fun _ _ _ h=>h) (Or.inl ⟨by rfl,?he45⟩) hHeld ?re45
        case he45=>(intro w hSw;(try dsimp only at hSw);go_simp;(try with_reducible rfl))
        (try simp only [Act.put,sx])
        refine tk (i:=46) (oi:=⟨some 73,_,_,_,_,_⟩) (v:=?ve46) rfl (by kernel_rfl) (fun _ _ _ h=>h) (Or.inl ⟨by rfl,?he46⟩) hHeld ?re46
        case he46=>(intro w hSw;(try dsimp only at hSw);go_simp;(try with_reducible rfl))
        (try simp only [Act.put,sx])
        refine tk (i:=47) (oi:=⟨some 74,_,_,_,_,_⟩) (v:=?ve47) rfl (by kernel_rfl) (fun _ _ _ h=>h) (Or.inl ⟨by rfl,?he47⟩) hHeld ?re47
        case he47=>(intro w hSw;(try dsimp only at hSw);go_simp;(try with_reducible rfl))
        (try simp only [Act.put,sx])
        refine tk (i:=48) (oi:=⟨some 75,_,_,_,_,_⟩) (v:=?ve48) rfl (by kernel_rfl) (fun _ _ _ h=>h) (Or.inl ⟨by rfl,?he48⟩) hHeld ?re48
        case he48=>(intro w hSw;(try dsimp only at hSw);go_simp;(try with_reducible rfl))
        (try simp only [Act.put,sx])
        refine tk (i:=49) (oi:=⟨some 76,_,_,_,_,_⟩) (v:=?ve49) rfl (by kernel_rfl) (fun _ _ _ h=>h) (Or.inl ⟨by rfl,?he49⟩) hHeld ?re49
        case he49=>(intro w hSw;(try dsimp only at hSw);go_simp;(try with_reducible rfl))
        (try simp only [Act.put,sx])
        refine tk (i:=50) (oi:=⟨some 77,_,_,_,_,_⟩) (v:=?ve50) rfl (by kernel_rfl) (fun _ _ _ h=>h) (Or.inl ⟨by rfl,?he50⟩) hHeld ?re50
        case he50=>(intro w hSw;(try dsimp only at hSw);go_simp;(try with_reducible rfl))
        (try simp only [Act.put,sx])
        refine wpAnyH_ready (rs:=[51]) (by kernel_rfl) (by simp) ?_;refine AllReadyH.cons rfl (fun K hK=>?_) AllReadyH.nil;go_simp
        go_wp2_with (go_at_call 281;refine (exprArgs_at hq _).mono ?_;rintro e w' ⟨rfl,rfl⟩)
        refine hK.out _ _ hHeld (fun hHeld=>?_);clear hK K;refine tk (i:=52) (oi:=⟨some 79,_,_,_,_,_⟩) (v:=?ve52) rfl (by kernel_rfl) (fun _ _ _ h=>h) (Or.inl ⟨by rfl,?he52⟩) hHeld ?re52
        case he52=>(intro w hSw;(try dsimp only at hSw);go_simp;(try with_reducible rfl))
        (try simp only [Act.put,sx])
        refine tk (i:=53) (oi:=⟨some 80,_,_,_,_,_⟩) (v:=?ve53) rfl (by kernel_rfl) (fun _ _ _ h=>h) (Or.inl ⟨by rfl,?he53⟩) hHeld ?re53
        case he53=>(intro w hSw;(try dsimp only at hSw);go_simp;(try with_reducible rfl))
        (try simp only [Act.put,sx])
        refine tk (i:=54) (oi:=⟨some 81,_,_,_,_,_⟩) (v:=?ve54) rfl (by kernel_rfl) (fun _ _ _ h=>h) (Or.inl ⟨by rfl,?he54⟩) hHeld ?re54
        case he54=>(intro w hSw;(try dsimp only at hSw);go_simp;(try with_reducible rfl))
        (try simp only [Act.put,sx])
        refine tk (i:=55) (oi:=⟨some 82,_,_,_,_,_⟩) (v:=?ve55) rfl (by kernel_rfl) (fun _ _ _ h=>h) (Or.inl ⟨by rfl,?he55⟩) hHeld ?re55
        case he55=>(intro w hSw;(try dsimp only at hSw);go_simp;(try with_reducible rfl))
        (try simp only [Act.put,sx])
        refine tk (i:=56) (oi:=⟨some 83,_,_,_,_,_⟩) (v:=?ve56) rfl (by kernel_rfl) (fun _ _ _ h=>h) (Or.inl ⟨by rfl,?he56⟩) hHeld ?re56
        case he56=>(intro w hSw;(try dsimp only at hSw);go_simp;(try with_reducible rfl))
        (try simp only [Act.put,sx])
        refine tk (i:=57) (oi:=⟨some 84,_,_,_,_,_⟩) (v:=?ve57) rfl (by kernel_rfl) (fun _ _ _ h=>h) (Or.inl ⟨by rfl,?he57⟩) hHeld ?re57
        case he57=>(intro w hSw;(try dsimp only at hSw);go_simp;(try with_reducible rfl))
        (try simp only [Act.put,sx])
        refine tk (i:=58) (oi:=⟨some 85,_,_,_,_,_⟩) (v:=?ve58) rfl (by kernel_rfl) (fun _ _ _ h=>h) (Or.inl ⟨by rfl,?he58⟩) hHeld ?re58
        case he58=>(intro w hSw;(try dsimp only at hSw);go_simp;(try with_reducible rfl))
        (try simp only [Act.put,sx])
        refine wpAnyH_ready (rs:=[59]) (by kernel_rfl) (by simp) ?_;refine AllReadyH.cons rfl (fun K hK=>?_) AllReadyH.nil;go_simp
        go_wp2_with (go_at_call 281;refine (exprArgs_at hq _).mono ?_;rintro e w' ⟨rfl,rfl⟩)
        refine hK.out _ _ hHeld (fun hHeld=>?_);clear hK K;refine tk (i:=60) (oi:=⟨some 87,_,_,_,_,_⟩) (v:=?ve60) rfl (by kernel_rfl) (fun _ _ _ h=>h) (Or.inl ⟨by rfl,?he60⟩) hHeld ?re60
        case he60=>(intro w hSw;(try dsimp only at hSw);go_simp;(try with_reducible rfl))
        (try simp only [Act.put,sx])
        refine tk (i:=61) (oi:=⟨some 88,_,_,_,_,_⟩) (v:=?ve61) rfl (by kernel_rfl) (fun _ _ _ h=>h) (Or.inl ⟨by rfl,?he61⟩) hHeld ?re61
        case he61=>(intro w hSw;(try dsimp only at hSw);go_simp;(try with_reducible rfl))
        (try simp only [Act.put,sx])
        refine tk (i:=62) (oi:=⟨some 89,_,_,_,_,_⟩) (v:=?ve62) rfl (by kernel_rfl) (fun _ _ _ h=>h) (Or.inl ⟨by rfl,?he62⟩) hHeld ?re62
        case he62=>(intro w hSw;(try dsimp only at hSw);go_simp;(try with_reducible rfl))
        (try simp only [Act.put,sx])
        refine wpAnyH_done (by kernel_rfl) ?_ _;go_wp2_with fail;go_meet;exact ⟨by rw [HE.out],endB FF⟩
      | true=>
        have HE:Hid (C=true):=by show _=_;rw [HC.out];simp [hR,hf,ho1,ho2,hN,h0,hl]
        refine wp_region_held_drew (S:=(fun W=>W.cell? ⟨w.heap.size,0,none⟩=some (.int .i64 op)/\W.cell? ⟨w.heap.size,1,none⟩=some (.int .i64 n)/\W.cell? ⟨w.heap.size,2,none⟩=some (.string mod)/\W.cell? ⟨w.heap.size,3,none⟩=some (.string name)/\W.cell? ⟨w.heap.size,4,none⟩=some (.slice aa l.length cap))) (by kernel_rfl) ?_ (fun hHeld=>?_)
        . (try dsimp only);go_keep
        refine tk (i:=0) (oi:=⟨some 27,_,_,_,_,_⟩) (v:=?vf0) rfl (by kernel_rfl) (fun _ _ _ h=>h) (Or.inl ⟨by rfl,?hf0⟩) hHeld ?rf0
        case hf0=>(intro w hSw;(try dsimp only at hSw);go_simp;(try with_reducible rfl))
        (try simp only [Act.put,sx])
        refine tk (i:=1) (oi:=⟨some 28,_,_,_,_,_⟩) (v:=?vf1) rfl (by kernel_rfl) (fun _ _ _ h=>h) (Or.inl ⟨by rfl,?hf1⟩) hHeld ?rf1
        case hf1=>(intro w hSw;(try dsimp only at hSw);go_simp;(try with_reducible rfl))
        (try simp only [Act.put,sx])
        refine wpAnyH_ready (rs:=[2]) (by kernel_rfl) (by simp) ?_;refine AllReadyH.cons rfl (fun K hK=>?_) AllReadyH.nil;go_simp
        go_wp2_with (go_at_call 259;refine (exprRef_at hR _).mono ?_;rintro e w' ⟨rfl,rfl⟩)
        refine hK.out _ _ hHeld (fun hHeld=>?_);clear hK K;refine tk (i:=3) (oi:=⟨some 30,_,_,_,_,_⟩) (v:=?vf3) rfl (by kernel_rfl) (fun _ _ _ h=>h) (Or.inl ⟨by rfl,?hf3⟩) hHeld ?rf3
        case hf3=>(intro w hSw;(try dsimp only at hSw);go_simp;(try with_reducible rfl))
        (try simp only [Act.put,sx])
        refine tk (i:=4) (oi:=⟨some 31,_,_,_,_,_⟩) (v:=?vf4) rfl (by kernel_rfl) (fun _ _ _ h=>h) (Or.inl ⟨by rfl,?hf4⟩) hHeld ?rf4
        case hf4=>(intro w hSw;(try dsimp only at hSw);go_simp;(try with_reducible rfl))
        (try simp only [Act.put,sx])
        refine tk (i:=5) (oi:=⟨some 32,_,_,_,_,_⟩) (v:=?vf5) rfl (by kernel_rfl) (fun _ _ _ h=>h) (Or.inl ⟨by rfl,?hf5⟩) hHeld ?rf5
        case hf5=>(intro w hSw;(try dsimp only at hSw);go_simp;(try with_reducible rfl))
        (try simp only [Act.put,sx])
        refine tk (i:=6) (oi:=⟨some 33,_,_,_,_,_⟩) (v:=?vf6) rfl (by kernel_rfl) (fun _ _ _ h=>h) (Or.inl ⟨by rfl,?hf6⟩) hHeld ?rf6
        case hf6=>(intro w hSw;(try dsimp only at hSw);go_simp;(try with_reducible rfl))
        (try simp only [Act.put,sx])
        refine tk (i:=7) (oi:=⟨some 34,_,_,_,_,_⟩) (v:=?vf7) rfl (by kernel_rfl) (fun _ _ _ h=>h) (Or.inl ⟨by rfl,?hf7⟩) hHeld ?rf7
        case hf7=>(intro w hSw;(try dsimp only at hSw);go_simp;(try with_reducible rfl))
        (try simp only [Act.put,sx])
        refine wpAnyH_ready (rs:=[8]) (by kernel_rfl) (by simp) ?_;refine AllReadyH.cons rfl (fun K hK=>?_) AllReadyH.nil;go_simp
        go_wp2_with (go_at_call 245;refine (refFine_at hf _ HWm.out HWn.out).mono ?_;rintro e w' ⟨rfl,hb⟩)
        have FF:=bx5 HBx HBz hb;clear hb;refine hK.out _ _ FF.out.2 (fun hHeld=>?_);clear hK K;refine tk (i:=9) (oi:=⟨some 36,_,_,_,_,_⟩) (v:=?vf9) rfl (by kernel_rfl) (fun _ _ _ h=>h) (Or.inl ⟨by rfl,?hf9⟩) hHeld ?rf9
        case hf9=>(intro w hSw;(try dsimp only at hSw);go_simp;(try with_reducible rfl))
        (try simp only [Act.put,sx])
        refine tk (i:=10) (oi:=⟨some 37,_,_,_,_,_⟩) (v:=?vf10) rfl (by kernel_rfl) (fun _ _ _ h=>h) (Or.inl ⟨by rfl,?hf10⟩) hHeld ?rf10
        case hf10=>(intro w hSw;(try dsimp only at hSw);go_simp;(try with_reducible rfl))
        (try simp only [Act.put,sx])
        refine tk (i:=11) (oi:=⟨some 38,_,_,_,_,_⟩) (v:=?vf11) rfl (by kernel_rfl) (fun _ _ _ h=>h) (Or.inl ⟨by rfl,?hf11⟩) hHeld ?rf11
        case hf11=>(intro w hSw;(try dsimp only at hSw);go_simp;(try with_reducible rfl))
        (try simp only [Act.put,sx])
        refine tk (i:=12) (oi:=⟨some 39,_,_,_,_,_⟩) (v:=?vf12) rfl (by kernel_rfl) (fun _ _ _ h=>h) (Or.inl ⟨by rfl,?hf12⟩) hHeld ?rf12
        case hf12=>(intro w hSw;(try dsimp only at hSw);go_simp;(try with_reducible rfl))
        (try simp only [Act.put,sx])
        refine tk (i:=13) (oi:=⟨some 40,_,_,_,_,_⟩) (v:=?vf13) rfl (by kernel_rfl) (fun _ _ _ h=>h) (Or.inl ⟨by rfl,?hf13⟩) hHeld ?rf13
        case hf13=>(intro w hSw;(try dsimp only at hSw);go_simp;(try with_reducible rfl))
        (try simp only [Act.put,sx])
        refine wpAnyH_ready (rs:=[14]) (by kernel_rfl) (by simp) ?_;refine AllReadyH.cons rfl (fun K hK=>?_) AllReadyH.nil;go_simp
        go_wp2_with (go_at_call 259;refine (exprRef_at hR _).mono ?_;rintro e w' ⟨rfl,rfl⟩)
        refine hK.out _ _ hHeld (fun hHeld=>?_);clear hK K;refine tk (i:=15) (oi:=⟨some 42,_,_,_,_,_⟩) (v:=?vf15) rfl (by kernel_rfl) (fun _ _ _ h=>h) (Or.inl ⟨by rfl,?hf15⟩) hHeld ?rf15
        case hf15=>(intro w hSw;(try dsimp only at hSw);go_simp;(try with_reducible rfl))
        (try simp only [Act.put,sx])
        refine tk (i:=16) (oi:=⟨some 43,_,_,_,_,_⟩) (v:=?vf16) rfl (by kernel_rfl) (fun _ _ _ h=>h) (Or.inl ⟨by rfl,?hf16⟩) hHeld ?rf16
        case hf16=>(intro w hSw;(try dsimp only at hSw);go_simp;(try with_reducible rfl))
        (try simp only [Act.put,sx])
        refine tk (i:=17) (oi:=⟨some 44,_,_,_,_,_⟩) (v:=undef) rfl (by kernel_rfl) (fun _ _ _ h=>h) (Or.inr ⟨by rfl,rfl⟩) hHeld ?rf17
        (try simp only [Act.put,sx])
        refine tk (i:=18) (oi:=⟨some 45,_,_,_,_,_⟩) (v:=undef) rfl (by kernel_rfl) (fun _ _ _ h=>h) (Or.inr ⟨by rfl,rfl⟩) hHeld ?rf18
        (try simp only [Act.put,sx])
        refine tk (i:=19) (oi:=⟨some 46,_,_,_,_,_⟩) (v:=undef) rfl (by kernel_rfl) (fun _ _ _ h=>h) (Or.inr ⟨by rfl,rfl⟩) hHeld ?rf19
        (try simp only [Act.put,sx])
        refine tk (i:=20) (oi:=⟨some 47,_,_,_,_,_⟩) (v:=undef) rfl (by kernel_rfl) (fun _ _ _ h=>h) (Or.inr ⟨by rfl,rfl⟩) hHeld ?rf20
        (try simp only [Act.put,sx])
        refine tk (i:=21) (oi:=⟨some 48,_,_,_,_,_⟩) (v:=undef) rfl (by kernel_rfl) (fun _ _ _ h=>h) (Or.inr ⟨by rfl,rfl⟩) hHeld ?rf21
        (try simp only [Act.put,sx])
        refine tk (i:=22) (oi:=⟨some 49,_,_,_,_,_⟩) (v:=undef) rfl (by kernel_rfl) (fun _ _ _ h=>h) (Or.inr ⟨by rfl,rfl⟩) hHeld ?rf22
        (try simp only [Act.put,sx])
        refine tk (i:=23) (oi:=⟨some 50,_,_,_,_,_⟩) (v:=undef) rfl (by kernel_rfl) (fun _ _ _ h=>h) (Or.inr ⟨by rfl,rfl⟩) hHeld ?rf23
        (try simp only [Act.put,sx])
        refine tk (i:=24) (oi:=⟨some 51,_,_,_,_,_⟩) (v:=undef) rfl (by kernel_rfl) (fun _ _ _ h=>h) (Or.inr ⟨by rfl,rfl⟩) hHeld ?rf24
        (try simp only [Act.put,sx])
        refine tk (i:=25) (oi:=⟨some 52,_,_,_,_,_⟩) (v:=?vf25) rfl (by kernel_rfl) (fun _ _ _ h=>h) (Or.inl ⟨by rfl,?hf25⟩) hHeld ?rf25
        case hf25=>(intro w hSw;(try dsimp only at hSw);go_simp;(try with_reducible rfl))
        (try simp only [Act.put,sx])
        refine tk (i:=26) (oi:=⟨some 53,_,_,_,_,_⟩) (v:=?vf26) rfl (by kernel_rfl) (fun _ _ _ h=>h) (Or.inl ⟨by rfl,?hf26⟩) hHeld ?rf26
        case hf26=>(intro w hSw;(try dsimp only at hSw);go_simp;(try with_reducible rfl))
        (try simp only [Act.put,sx])
        refine tk (i:=27) (oi:=⟨some 54,_,_,_,_,_⟩) (v:=?vf27) rfl (by kernel_rfl) (fun _ _ _ h=>h) (Or.inl ⟨by rfl,?hf27⟩) hHeld ?rf27
        case hf27=>(intro w hSw;(try dsimp only at hSw);go_simp;(try with_reducible rfl))
        (try simp only [Act.put,sx])
        refine tk (i:=28) (oi:=⟨some 55,_,_,_,_,_⟩) (v:=?vf28) rfl (by kernel_rfl) (fun _ _ _ h=>h) (Or.inl ⟨by rfl,?hf28⟩) hHeld ?rf28
        case hf28=>(intro w hSw;(try dsimp only at hSw);go_simp;(try with_reducible rfl))
        (try simp only [Act.put,sx])
        refine tk (i:=29) (oi:=⟨some 56,_,_,_,_,_⟩) (v:=?vf29) rfl (by kernel_rfl) (fun _ _ _ h=>h) (Or.inl ⟨by rfl,?hf29⟩) hHeld ?rf29
        case hf29=>(intro w hSw;(try dsimp only at hSw);go_simp;(try with_reducible rfl))
        (try simp only [Act.put,sx])
        refine tk (i:=30) (oi:=⟨some 57,_,_,_,_,_⟩) (v:=?vf30) rfl (by kernel_rfl) (fun _ _ _ h=>h) (Or.inl ⟨by rfl,?hf30⟩) hHeld ?rf30
        case hf30=>(intro w hSw;(try dsimp only at hSw);go_simp;(try with_reducible rfl))
        (try simp only [Act.put,sx])
        refine tk (i:=31) (oi:=⟨some 58,_,_,_,_,_⟩) (v:=?vf31) rfl (by kernel_rfl) (fun _ _ _ h=>h) (Or.inl ⟨by rfl,?hf31⟩) hHeld ?rf31
        case hf31=>(intro w hSw;(try dsimp only at hSw);go_simp;(try with_reducible rfl))
        (try simp only [Act.put,sx])
        refine tk (i:=32) (oi:=⟨some 59,_,_,_,_,_⟩) (v:=undef) rfl (by kernel_rfl) (fun _ _ _ h=>h) (Or.inr ⟨by rfl,rfl⟩) hHeld ?rf32
        (try simp only [Act.put,sx])
        refine tk (i:=33) (oi:=⟨some 60,_,_,_,_,_⟩) (v:=undef) rfl (by kernel_rfl) (fun _ _ _ h=>h) (Or.inr ⟨by rfl,rfl⟩) hHeld ?rf33
        (try simp only [Act.put,sx])
        refine tk (i:=34) (oi:=⟨some 61,_,_,_,_,_⟩) (v:=undef) rfl (by kernel_rfl) (fun _ _ _ h=>h) (Or.inr ⟨by rfl,rfl⟩) hHeld ?rf34
        (try simp only [Act.put,sx])
        refine tk (i:=35) (oi:=⟨some 62,_,_,_,_,_⟩) (v:=undef) rfl (by kernel_rfl) (fun _ _ _ h=>h) (Or.inr ⟨by rfl,rfl⟩) hHeld ?rf35
        (try simp only [Act.put,sx])
        refine tk (i:=36) (oi:=⟨some 63,_,_,_,_,_⟩) (v:=?vf36) rfl (by kernel_rfl) (fun _ _ _ h=>h) (Or.inl ⟨by rfl,?hf36⟩) hHeld ?rf36
        case hf36=>(intro w hSw;(try dsimp only at hSw);go_simp;(try with_reducible rfl))
        (try simp only [Act.put,sx])
        refine tk (i:=37) (oi:=⟨some 64,_,_,_,_,_⟩) (v:=?vf37) rfl (by kernel_rfl) (fun _ _ _ h=>h) (Or.inl ⟨by rfl,?hf37⟩) hHeld ?rf37
        case hf37=>(intro w hSw;(try dsimp only at hSw);go_simp;(try with_reducible rfl))
        (try simp only [Act.put,sx])
        refine tk (i:=38) (oi:=⟨some 65,_,_,_,_,_⟩) (v:=?vf38) rfl (by kernel_rfl) (fun _ _ _ h=>h) (Or.inl ⟨by rfl,?hf38⟩) hHeld ?rf38
        case hf38=>(intro w hSw;(try dsimp only at hSw);go_simp;(try with_reducible rfl))
        (try simp only [Act.put,sx])
        refine tk (i:=39) (oi:=⟨some 66,_,_,_,_,_⟩) (v:=?vf39) rfl (by kernel_rfl) (fun _ _ _ h=>h) (Or.inl ⟨by rfl,?hf39⟩) hHeld ?rf39
        case hf39=>(intro w hSw;(try dsimp only at hSw);go_simp;(try with_reducible rfl))
        (try simp only [Act.put,sx])
        refine tk (i:=40) (oi:=⟨some 67,_,_,_,_,_⟩) (v:=?vf40) rfl (by kernel_rfl) (fun _ _ _ h=>h) (Or.inl ⟨by rfl,?hf40⟩) hHeld ?rf40
        case hf40=>(intro w hSw;(try dsimp only at hSw);go_simp;(try with_reducible rfl))
        (try simp only [Act.put,sx])
        refine tk (i:=41) (oi:=⟨some 68,_,_,_,_,_⟩) (v:=?vf41) rfl (by kernel_rfl) (fun _ _ _ h=>h) (Or.inl ⟨by rfl,?hf41⟩) hHeld ?rf41
        case hf41=>(intro w hSw;(try dsimp only at hSw);go_simp;(try with_reducible rfl))
        (try simp only [Act.put,sx])
        refine tk (i:=42) (oi:=⟨some 69,_,_,_,_,_⟩) (v:=?vf42) rfl (by kernel_rfl) (fun _ _ _ h=>h) (Or.inl ⟨by rfl,?hf42⟩) hHeld ?rf42
        case hf42=>(intro w hSw;(try dsimp only at hSw);go_simp;(try with_reducible rfl))
        (try simp only [Act.put,sx])
        refine tk (i:=43) (oi:=⟨some 70,_,_,_,_,_⟩) (v:=?vf43) rfl (by kernel_rfl) (fun _ _ _ h=>h) (Or.inl ⟨by rfl,?hf43⟩) hHeld ?rf43
        case hf43=>(intro w hSw;(try dsimp only at hSw);go_simp;(try with_reducible rfl))
        (try simp only [Act.put,sx])
        refine tk (i:=44) (oi:=⟨some 71,_,_,_,_,_⟩) (v:=?vf44) rfl (by kernel_rfl) (fun _ _ _ h=>h) (Or.inl ⟨by rfl,?hf44⟩) hHeld ?rf44
        case hf44=>(intro w hSw;(try dsimp only at hSw);go_simp;(try with_reducible rfl))
        (try simp only [Act.put,sx])
        refine tk (i:=45) (oi:=⟨some 72,_,_,_,_,_⟩) (v:=?vf45) rfl (by kernel_rfl) (fun _ _ _ h=>h) (Or.inl ⟨by rfl,?hf45⟩) hHeld ?rf45
        case hf45=>(intro w hSw;(try dsimp only at hSw);go_simp;(try with_reducible rfl))
        (try simp only [Act.put,sx])
        refine tk (i:=46) (oi:=⟨some 73,_,_,_,_,_⟩) (v:=?vf46) rfl (by kernel_rfl) (fun _ _ _ h=>h) (Or.inl ⟨by rfl,?hf46⟩) hHeld ?rf46
        case hf46=>(intro w hSw;(try dsimp only at hSw);go_simp;(try with_reducible rfl))
        (try simp only [Act.put,sx])
        refine tk (i:=47) (oi:=⟨some 74,_,_,_,_,_⟩) (v:=?vf47) rfl (by kernel_rfl) (fun _ _ _ h=>h) (Or.inl ⟨by rfl,?hf47⟩) hHeld ?rf47
        case hf47=>(intro w hSw;(try dsimp only at hSw);go_simp;(try with_reducible rfl))
        (try simp only [Act.put,sx])
        refine tk (i:=48) (oi:=⟨some 75,_,_,_,_,_⟩) (v:=?vf48) rfl (by kernel_rfl) (fun _ _ _ h=>h) (Or.inl ⟨by rfl,?hf48⟩) hHeld ?rf48
        case hf48=>(intro w hSw;(try dsimp only at hSw);go_simp;(try with_reducible rfl))
        (try simp only [Act.put,sx])
        refine tk (i:=49) (oi:=⟨some 76,_,_,_,_,_⟩) (v:=?vf49) rfl (by kernel_rfl) (fun _ _ _ h=>h) (Or.inl ⟨by rfl,?hf49⟩) hHeld ?rf49
        case hf49=>(intro w hSw;(try dsimp only at hSw);go_simp;(try with_reducible rfl))
        (try simp only [Act.put,sx])
        refine tk (i:=50) (oi:=⟨some 77,_,_,_,_,_⟩) (v:=?vf50) rfl (by kernel_rfl) (fun _ _ _ h=>h) (Or.inl ⟨by rfl,?hf50⟩) hHeld ?rf50
        case hf50=>(intro w hSw;(try dsimp only at hSw);go_simp;(try with_reducible rfl))
        (try simp only [Act.put,sx])
        refine wpAnyH_ready (rs:=[51]) (by kernel_rfl) (by simp) ?_;refine AllReadyH.cons rfl (fun K hK=>?_) AllReadyH.nil;go_simp
        go_wp2_with (go_at_call 281;refine (exprArgs_at hq _).mono ?_;rintro e w' ⟨rfl,rfl⟩)
        refine hK.out _ _ hHeld (fun hHeld=>?_);clear hK K;refine tk (i:=52) (oi:=⟨some 79,_,_,_,_,_⟩) (v:=?vf52) rfl (by kernel_rfl) (fun _ _ _ h=>h) (Or.inl ⟨by rfl,?hf52⟩) hHeld ?rf52
        case hf52=>(intro w hSw;(try dsimp only at hSw);go_simp;(try with_reducible rfl))
        (try simp only [Act.put,sx])
        refine tk (i:=53) (oi:=⟨some 80,_,_,_,_,_⟩) (v:=?vf53) rfl (by kernel_rfl) (fun _ _ _ h=>h) (Or.inl ⟨by rfl,?hf53⟩) hHeld ?rf53
        case hf53=>(intro w hSw;(try dsimp only at hSw);go_simp;(try with_reducible rfl))
        (try simp only [Act.put,sx])
        refine tk (i:=54) (oi:=⟨some 81,_,_,_,_,_⟩) (v:=?vf54) rfl (by kernel_rfl) (fun _ _ _ h=>h) (Or.inl ⟨by rfl,?hf54⟩) hHeld ?rf54
        case hf54=>(intro w hSw;(try dsimp only at hSw);go_simp;(try with_reducible rfl))
        (try simp only [Act.put,sx])
        refine tk (i:=55) (oi:=⟨some 82,_,_,_,_,_⟩) (v:=?vf55) rfl (by kernel_rfl) (fun _ _ _ h=>h) (Or.inl ⟨by rfl,?hf55⟩) hHeld ?rf55
        case hf55=>(intro w hSw;(try dsimp only at hSw);go_simp;(try with_reducible rfl))
        (try simp only [Act.put,sx])
        refine tk (i:=56) (oi:=⟨some 83,_,_,_,_,_⟩) (v:=?vf56) rfl (by kernel_rfl) (fun _ _ _ h=>h) (Or.inl ⟨by rfl,?hf56⟩) hHeld ?rf56
        case hf56=>(intro w hSw;(try dsimp only at hSw);go_simp;(try with_reducible rfl))
        (try simp only [Act.put,sx])
        refine tk (i:=57) (oi:=⟨some 84,_,_,_,_,_⟩) (v:=?vf57) rfl (by kernel_rfl) (fun _ _ _ h=>h) (Or.inl ⟨by rfl,?hf57⟩) hHeld ?rf57
        case hf57=>(intro w hSw;(try dsimp only at hSw);go_simp;(try with_reducible rfl))
        (try simp only [Act.put,sx])
        refine tk (i:=58) (oi:=⟨some 85,_,_,_,_,_⟩) (v:=?vf58) rfl (by kernel_rfl) (fun _ _ _ h=>h) (Or.inl ⟨by rfl,?hf58⟩) hHeld ?rf58
        case hf58=>(intro w hSw;(try dsimp only at hSw);go_simp;(try with_reducible rfl))
        (try simp only [Act.put,sx])
        refine wpAnyH_ready (rs:=[59]) (by kernel_rfl) (by simp) ?_;refine AllReadyH.cons rfl (fun K hK=>?_) AllReadyH.nil;go_simp
        go_wp2_with (go_at_call 281;refine (exprArgs_at hq _).mono ?_;rintro e w' ⟨rfl,rfl⟩)
        refine hK.out _ _ hHeld (fun hHeld=>?_);clear hK K;refine tk (i:=60) (oi:=⟨some 87,_,_,_,_,_⟩) (v:=?vf60) rfl (by kernel_rfl) (fun _ _ _ h=>h) (Or.inl ⟨by rfl,?hf60⟩) hHeld ?rf60
        case hf60=>(intro w hSw;(try dsimp only at hSw);go_simp;(try with_reducible rfl))
        (try simp only [Act.put,sx])
        refine tk (i:=61) (oi:=⟨some 88,_,_,_,_,_⟩) (v:=?vf61) rfl (by kernel_rfl) (fun _ _ _ h=>h) (Or.inl ⟨by rfl,?hf61⟩) hHeld ?rf61
        case hf61=>(intro w hSw;(try dsimp only at hSw);go_simp;(try with_reducible rfl))
        (try simp only [Act.put,sx])
        refine tk (i:=62) (oi:=⟨some 89,_,_,_,_,_⟩) (v:=?vf62) rfl (by kernel_rfl) (fun _ _ _ h=>h) (Or.inl ⟨by rfl,?hf62⟩) hHeld ?rf62
        case hf62=>(intro w hSw;(try dsimp only at hSw);go_simp;(try with_reducible rfl))
        (try simp only [Act.put,sx])
        refine wpAnyH_done (by kernel_rfl) ?_ _;go_wp2_with fail;go_meet;exact ⟨by rw [HE.out],endB FF⟩
 case rest=>
  obtain ⟨rfl,HBc⟩:=hcut;have HB0':Hid (Below w.heap.size w wc):=thenB HB0.out HBc.out;have HBx':Hid (Blk wc w.heap.size [.int .i64 op,.int .i64 n,.string mod,.string name,.slice aa l.length cap]):=HBx.out.later HBc.out;clear HB0 HBx HBc HC;have HB0:=HB0';have HBx:=HBx';clear HB0' HBx';have x4:=HBx.out.cell 4 _ rfl;have xz:=HBx.out.lt
  cases hCb:C with
  | true=>
    subst hCb;go_wp2_with fail;go_ret;exact ⟨ret_bool (HR.out rfl),HB0.out⟩
  | false =>
    subst hCb;go_wp2_with fail
    go_loopw [7] (fun i wr=>∃ j:Nat,j<=l.length/\i = .int .i64 j/\(l.take j).any (eL 3 k)=false/\Below w.heap.size w wr/\Blk wr w.heap.size [.int .i64 op,.int .i64 n,.string mod,.string name,.slice aa l.length cap]) (fun i _=>l.length - (intOf i).toNat)
    case atStart=>exact ⟨0,Nat.zero_le _,rfl,rfl,HB0.out,HBx.out⟩
    case round=>
     obtain ⟨j,hj,rfl,hall,hb,hB⟩:=hrel;clear HBx HB0;clear x4 xz;have q4:=hB.cell 4 _ rfl;have qz:=hB.lt;have HB:Hid (Blk wr w.heap.size [.int .i64 op,.int .i64 n,.string mod,.string name,.slice aa l.length cap]):=hB;have HA:Hid ((l.take j).any (eL 3 k)=false):=hall;clear hall hB
     by_cases hlt:j<l.length
     . obtain ⟨b,off,a2,cp,rfl,hx⟩:=(HD.out.later hb).ex j hlt
       have hc0:=hx.c0;have hc1:=hx.c1;have hc2:=hx.c2;have hc3:=hx.c3;have hc4:=hx.c4;have hlb:=hx.lt;have HX:Hid (ExAt wr A b (off+j*5) l[j] a2 cp):=hx;clear hx;go_wp2_with fail;refine (HI.out l[j] a2 cp _ HX.out.args HX.out.wm HX.out.wna).mono ?_
       cases hr:eL 3 k l[j] with
       | true=>
         have HF:Hid (l.any (eL 3 k)=true):=any_at l _ j hlt hr;rintro e w3 ⟨rfl,hb3⟩;go_wp2_with fail;go_ret;exact ⟨ret_bool (HR.out (by rw [HF.out,Bool.or_true])),thenB hb hb3⟩
       | false=>
         have HT:Hid ((l.take (j+1)).any (eL 3 k)=false):=by
          show _=_
          rw [any_snoc l _ j hlt,HA.out,hr];rfl
         rintro e w3 ⟨rfl,hb3⟩;go_wp2_with fail;go_roundw
         case rel=>exact ⟨j+1,by omega,by go_num,HT.out,thenB hb hb3,HB.out.later hb3⟩
         case measure=>simp [intOf];omega
     . have HT:Hid (l.any (eL 3 k)=false):=any_end HA.out hlt
       go_wp2_with fail;go_ret;exact ⟨ret_bool (HR.out (by rw [HT.out];rfl)),hb⟩
end Go.Proofs.YtndkhgakfodldaaGreatDoor
