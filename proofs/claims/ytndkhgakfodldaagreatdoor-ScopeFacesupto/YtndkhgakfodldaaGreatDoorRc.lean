/-
  exprLook.
-/
import Derived.Test.YtndkhgakfodldaaGreatDoorRb
import Derived.Test.YtndkhgakfodldaaGreatDoorRbf
namespace Go.Proofs.YtndkhgakfodldaaGreatDoor
set_option maxRecDepth 100000
set_option maxHeartbeats 800000
open Go.RowKit Go.Maps
theorem exprLook_step3 (A:Nat->Prop) (k:Nat) (op n:Int) (mod name:ByteArray) (l:List Ex) (aa:Option Addr) (cap:Nat) (deep:Int) (w:World) (hbd:l.length<=17592186044416) (hd1:1<=deep) (hd6:deep<=6)
 (HI:Hid (∀ (x:Ex) (aa:Option Addr) (cap:Nat) (w:World),DAt w A aa x.args.length (exsD x.args)->x.mod.size<=maxLen->x.name.size<=maxLen->
   Calls Tryz.prog 247 #[.agg #[.int .i64 x.op,.int .i64 x.n,.string x.mod,.string x.name,.slice aa x.args.length cap],.int .i64 3,.int .i64 (deep+1)] w fun e w'=>e = .returned (.bool (eL 3 k x))/\Below w.heap.size w w'))
 (HD:Hid (DAt w A aa l.length (exsD l))) (HWm:Hid (mod.size<=maxLen)) (HWn:Hid (name.size<=maxLen)) :
 Calls Tryz.prog 247 #[.agg #[.int .i64 op,.int .i64 n,.string mod,.string name,.slice aa l.length cap],.int .i64 3,.int .i64 deep] w fun e w'=>e = .returned (.bool (eL 3 (k+1) (.mk op n mod name l)))/\Below w.heap.size w w':=by
 cases hR:inB op 3 5 with
 | false=>
   cases hm:mod.toList.isEmpty with
   | false=>exact exprStep3a A k op n mod name l aa cap deep w hbd hd1 hd6 HI HD HWm HWn hR (Or.inl hm)
   | true=>
     cases hn:name.toList.isEmpty with
     | false=>exact exprStep3a A k op n mod name l aa cap deep w hbd hd1 hd6 HI HD HWm HWn hR (Or.inr ⟨hm,hn⟩)
     | true=>
       by_cases ho:op=1
       . exact exprStep3b A k op n mod name l aa cap deep w hbd hd1 hd6 HI HD HWm HWn hR hm hn ho
       . exact exprStep3c A k op n mod name l aa cap deep w hbd hd1 hd6 HI HD HWm HWn hR hm hn ho
 | true=>
   cases hf:fineB mod name with
   | false=>exact exprStep3d A k op n mod name l aa cap deep w hbd hd1 hd6 HI HD HWm HWn hR hf
   | true=>exact exprStep3e A k op n mod name l aa cap deep w hbd hd1 hd6 HI HD HWm HWn hR hf
theorem exprLook_any (A:Nat->Prop):∀ (k:Nat),k<=6->∀ (lv:Int),lv=1\/lv=2\/lv=3->∀ (x:Ex) (aa:Option Addr) (cap:Nat) (deep:Int) (w:World),deep=7 - (k:Int)->DAt w A aa x.args.length (exsD x.args)->x.mod.size<=maxLen->x.name.size<=maxLen->
 Calls Tryz.prog 247 #[.agg #[.int .i64 x.op,.int .i64 x.n,.string x.mod,.string x.name,.slice aa x.args.length cap],.int .i64 lv,.int .i64 deep] w fun e w'=>e = .returned (.bool (eL lv k x))/\Below w.heap.size w w'
 | 0,_,lv,_,x,aa,cap,deep,w,hd,_,_,_=>by
   subst hd
   have HR:Hid (eL lv 0 x=(lv == 2)):=by show _=_;simp [eL]
   go_enter Tryz.func247,Tryz.ntmps247;go_wp2_with fail;go_ret;exact ⟨ret_bool HR.out.symm,al1 _ _⟩
 | k+1,hk,lv,hlv,.mk op n mod name l,aa,cap,deep,w,hd,hD,wm,wna=>by
   simp only [Ex.op,Ex.n,Ex.mod,Ex.name,Ex.args] at hD wm wna ⊢
   have HI:Hid (∀ (x:Ex) (aa:Option Addr) (cap:Nat) (w:World),DAt w A aa x.args.length (exsD x.args)->x.mod.size<=maxLen->x.name.size<=maxLen->
    Calls Tryz.prog 247 #[.agg #[.int .i64 x.op,.int .i64 x.n,.string x.mod,.string x.name,.slice aa x.args.length cap],.int .i64 lv,.int .i64 (deep+1)] w fun e w'=>e = .returned (.bool (eL lv k x))/\Below w.heap.size w w'):=
    fun x aa cap w h1 h2 h3=>exprLook_any A k (by omega) lv hlv x aa cap (deep+1) w (by omega) h1 h2 h3
   rcases hlv with rfl | rfl | rfl
   . exact exprStep1 A k op n mod name l aa cap deep w hD.bound (by omega) (by omega) HI hD wm wna
   . exact exprStep2 A k op n mod name l aa cap deep w hD.bound (by omega) (by omega) HI hD wm wna
   . exact exprLook_step3 A k op n mod name l aa cap deep w hD.bound (by omega) (by omega) HI hD wm wna
end Go.Proofs.YtndkhgakfodldaaGreatDoor

namespace Go.Proofs.YtndkhgakfodldaaGreatDoor
open Go.RowKit Go.Maps
def s3 (s:St):Bool:=(inB s.op 1 3 && !fineB s.mod s.name)||(!inB s.op 1 3&&(!s.mod.toList.isEmpty || !s.name.toList.isEmpty))||(decide (0<=stN s.op)&&((s.args.length:Int) != stN s.op))||(s.op != 4&&s.op != 5&&decide (0<s.body.length))||(s.op != 4&&decide (0<s.other.length))
def sBad (lv:Int) (s:St):Bool:=if lv=1 then !inB s.op 1 7 else if lv=2 then decide (3<s.args.length) else s3 s
def bL (lv:Int):Nat->List St->Bool
 | 0,_=>lv == 2
 | k+1,l=>(lv == 2&&decide (10<l.length))||l.any (fun s=>sBad lv s||(s.args.any (eL lv 6)||(((s.op == 4||s.op == 5)||decide (0<s.body.length))&&bL lv k s.body||(decide (0<s.other.length)&&bL lv k s.other))))
def sL (lv:Int) (k:Nat) (s:St):Bool:=sBad lv s||(s.args.any (eL lv 6)||(((s.op == 4||s.op == 5)||decide (0<s.body.length))&&bL lv k s.body||(decide (0<s.other.length)&&bL lv k s.other)))
theorem bL_succ (lv:Int) (k:Nat) (l:List St):bL lv (k+1) l=((lv == 2&&decide (10<l.length))||l.any (sL lv k)):=rfl
theorem stmtRef_at {op:Int} {b:Bool} (h:inB op 1 3=b) (w:World):Calls Tryz.prog 163 #[.int .i64 op] w fun e w'=>e = .returned (.bool b)/\w'=w:=by
 subst h;exact stmtRef_any op w
theorem stmtArgs_at {op q:Int} (h:stN op=q) (w:World):Calls Tryz.prog 246 #[.int .i64 op] w fun e w'=>e = .returned (.int .i64 q)/\w'=w:=by
 subst h;exact stmtArgs_any op w
theorem bx6 {W0 W W':World} {b:Nat} {u0 u1 u2 u3 u4 u5:Value} (hB:Hid (Blk W0 b [u0,u1,u2,u3,u4,u5])) (h0:Hid (Below W0.heap.size W0 W)) (hb:Below W.heap.size W W') :
 Hid (Below W0.heap.size W0 W'/\W'.cell? ⟨b,0,none⟩=some u0/\W'.cell? ⟨b,1,none⟩=some u1/\W'.cell? ⟨b,2,none⟩=some u2/\W'.cell? ⟨b,3,none⟩=some u3/\W'.cell? ⟨b,4,none⟩=some u4/\W'.cell? ⟨b,5,none⟩=some u5):=by
 have h:=thenB h0.out hb;have c:=(hB.out.later h).c6;exact ⟨h,c.1,c.2.1,c.2.2.1,c.2.2.2.1,c.2.2.2.2.1,c.2.2.2.2.2.1⟩
theorem stBad1 {op:Int} {mod name:ByteArray} {l:List Ex} {bd ot:List St} {b:Bool} (h:inB op 1 7=b):sBad 1 (.mk op mod name l bd ot) = !b:=by subst h;rfl
end Go.Proofs.YtndkhgakfodldaaGreatDoor

namespace Go.Proofs.YtndkhgakfodldaaGreatDoor
set_option maxRecDepth 100000
set_option maxHeartbeats 8000000
open Go.RowKit Go.Maps
theorem stmtStep1 (A:Nat->Prop) (k:Nat) (op:Int) (mod name:ByteArray) (l:List Ex) (bd ot:List St) (aa ab ac:Option Addr) (cap cab cac:Nat) (deep:Int) (w:World) (hbd:l.length<=17592186044416) (hd1:1<=deep) (hd6:deep<=6)
 (HI:Hid (∀ (l:List St) (a:Option Addr) (cap:Nat) (w:World),DAt w A a l.length (stsD l)->Calls Tryz.prog 156 #[.slice a l.length cap,.int .i64 1,.int .i64 (deep+1)] w fun e w'=>e = .returned (.bool (bL 1 k l))/\Below w.heap.size w w'))
 (HD:Hid (DAt w A aa l.length (exsD l))) (HDb:Hid (DAt w A ab bd.length (stsD bd))) (HDo:Hid (DAt w A ac ot.length (stsD ot))) (_HWm:Hid (mod.size<=maxLen)) (_HWn:Hid (name.size<=maxLen)) :
 Calls Tryz.prog 191 #[.agg #[.int .i64 op,.string mod,.string name,.slice aa l.length cap,.slice ab bd.length cab,.slice ac ot.length cac],.int .i64 1,.int .i64 deep] w fun e w'=>e = .returned (.bool (sL 1 k (St.mk op mod name l bd ot)))/\Below w.heap.size w w':=by
 have HR:Hid (∀ {b:Bool},(sBad 1 (St.mk op mod name l bd ot)||(l.any (eL 1 6)||(((op == 4||op == 5)||decide (0<bd.length))&&bL 1 k bd||(decide (0<ot.length)&&bL 1 k ot))))=b->b=sL 1 k (St.mk op mod name l bd ot)):=fun h=>by rw [← h];rfl
 have HBx:Hid (Blk (w.alloc (.cells #[.int .i64 op,.string mod,.string name,.slice aa l.length cap,.slice ab bd.length cab,.slice ac ot.length cac] 176)) w.heap.size [.int .i64 op,.string mod,.string name,.slice aa l.length cap,.slice ab bd.length cab,.slice ac ot.length cac]):=Blk.new w _ _;have HB0:Hid (Below w.heap.size w (w.alloc (.cells #[.int .i64 op,.string mod,.string name,.slice aa l.length cap,.slice ab bd.length cab,.slice ac ot.length cac] 176))):=al1 _ _
 cases hK:inB op 1 7 with
 | false=>
   have HQ:Hid (sBad 1 (St.mk op mod name l bd ot)=true):=stBad1 hK;go_enter Tryz.func191,Tryz.ntmps191
   go_wp2_with (go_at_call 63;refine (within_at hK _).mono ?_;rintro e w' ⟨rfl,rfl⟩)
   go_ret;exact ⟨ret_bool (HR.out (by rw [HQ.out];rfl)),HB0.out⟩
 | true =>
   have HQ:Hid (sBad 1 (St.mk op mod name l bd ot)=false):=stBad1 hK;go_enter Tryz.func191,Tryz.ntmps191
   go_wp2_with (go_at_call 63;refine (within_at hK _).mono ?_;rintro e w' ⟨rfl,rfl⟩)
   go_wp2_with fail
   go_loopw [7] (fun i wr=>∃ j:Nat,j<=l.length/\i = .int .i64 j/\(l.take j).any (eL 1 6)=false/\Below w.heap.size w wr/\Blk wr w.heap.size [.int .i64 op,.string mod,.string name,.slice aa l.length cap,.slice ab bd.length cab,.slice ac ot.length cac]) (fun i _=>l.length - (intOf i).toNat)
   case atStart=>exact ⟨0,Nat.zero_le _,rfl,rfl,HB0.out,HBx.out⟩
   case round =>
    obtain ⟨j,hj,rfl,hall,hb,hB⟩:=hrel;clear HBx HB0;obtain ⟨q0,q1,q2,q3,q4,q5,qz⟩:=hB.c6;clear q1 q2;have HB:Hid (Blk wr w.heap.size [.int .i64 op,.string mod,.string name,.slice aa l.length cap,.slice ab bd.length cab,.slice ac ot.length cac]):=hB;have HA:Hid ((l.take j).any (eL 1 6)=false):=hall;clear hall hB
    by_cases hlt:j<l.length
    . obtain ⟨b,off,a2,cp,rfl,hx⟩:=(HD.out.later hb).ex j hlt
      have hc0:=hx.c0;have hc1:=hx.c1;have hc2:=hx.c2;have hc3:=hx.c3;have hc4:=hx.c4;have hlb:=hx.lt;have HX:Hid (ExAt wr A b (off+j*5) l[j] a2 cp):=hx;clear hx;go_wp2_with fail;refine (exprLook_any A 6 (by omega) 1 (by omega) l[j] a2 cp 1 _ (by omega) HX.out.args HX.out.wm HX.out.wna).mono ?_
      cases hr:eL 1 6 l[j] with
      | true=>
        have HF:Hid (l.any (eL 1 6)=true):=any_at l _ j hlt hr;rintro e w3 ⟨rfl,hb3⟩;go_wp2_with fail;go_ret;exact ⟨ret_bool (HR.out (by rw [HF.out];simp)),thenB hb hb3⟩
      | false=>
        have HT:Hid ((l.take (j+1)).any (eL 1 6)=false):=by
         show _=_
         rw [any_snoc l _ j hlt,HA.out,hr];rfl
        rintro e w3 ⟨rfl,hb3⟩;go_wp2_with fail;go_roundw
        case rel=>exact ⟨j+1,by omega,by go_num,HT.out,thenB hb hb3,HB.out.later hb3⟩
        case measure=>simp [intOf];omega
    . have HT : Hid (l.any (eL 1 6)=false):=any_end HA.out hlt
      have HS:Hid (∀ {b:Bool},(((op == 4||op == 5)||decide (0<bd.length))&&bL 1 k bd||(decide (0<ot.length)&&bL 1 k ot))=b->b=sL 1 k (St.mk op mod name l bd ot)):=fun h=>HR.out (by rw [HT.out,HQ.out,Bool.false_or,Bool.false_or];exact h)
      clear HR HT HA HD;have HDb':Hid (DAt wr A ab bd.length (stsD bd)):=HDb.out.later hb;have HDo':Hid (DAt wr A ac ot.length (stsD ot)):=HDo.out.later hb;clear HDb HDo
      cases h4:(op == 4) with
      | true=>
        go_wp2_with fail;refine (HI.out bd ab cab _ HDb'.out).mono ?_
        cases hr1:bL 1 k bd with
        | true=>
          rintro e w4 ⟨rfl,c1⟩;go_wp2_with fail;go_ret;exact ⟨ret_bool (HS.out (by simp [hr1,h4])),thenB hb c1⟩
        | false=>
          rintro e w4 ⟨rfl,c1⟩;clear q0 q3 q4 q5 qz;obtain ⟨q0,q1,q2,q3,q4,q5,qz⟩:=(HB.out.later c1).c6;clear q0 q1 q2 q3 q4
          by_cases ho:0<ot.length
          . go_wp2_with fail
            refine (HI.out ot ac cac _ (HDo'.out.later c1)).mono ?_
            cases hr2:bL 1 k ot with
            | true=>
              rintro e w5 ⟨rfl,c2⟩;go_wp2_with fail;go_ret;exact ⟨ret_bool (HS.out (by simp [hr2,ho])),thenB (thenB hb c1) c2⟩
            | false=>
              rintro e w5 ⟨rfl,c2⟩;go_wp2_with fail;go_ret;exact ⟨ret_bool (HS.out (by simp [hr2,hr1])),thenB (thenB hb c1) c2⟩
          . go_wp2_with fail
            go_ret;exact ⟨ret_bool (HS.out (by simp [ho,hr1])),(thenB hb c1)⟩
      | false =>
        cases h5:(op == 5) with
        | true=>
          go_wp2_with fail;refine (HI.out bd ab cab _ HDb'.out).mono ?_
          cases hr1:bL 1 k bd with
          | true=>
            rintro e w4 ⟨rfl,c1⟩;go_wp2_with fail;go_ret;exact ⟨ret_bool (HS.out (by simp [hr1,h4,h5])),thenB hb c1⟩
          | false=>
            rintro e w4 ⟨rfl,c1⟩;clear q0 q3 q4 q5 qz;obtain ⟨q0,q1,q2,q3,q4,q5,qz⟩:=(HB.out.later c1).c6;clear q0 q1 q2 q3 q4
            by_cases ho:0<ot.length
            . go_wp2_with fail
              refine (HI.out ot ac cac _ (HDo'.out.later c1)).mono ?_
              cases hr2:bL 1 k ot with
              | true=>
                rintro e w5 ⟨rfl,c2⟩;go_wp2_with fail;go_ret;exact ⟨ret_bool (HS.out (by simp [hr2,ho])),thenB (thenB hb c1) c2⟩
              | false=>
                rintro e w5 ⟨rfl,c2⟩;go_wp2_with fail;go_ret;exact ⟨ret_bool (HS.out (by simp [hr2,hr1])),thenB (thenB hb c1) c2⟩
            . go_wp2_with fail
              go_ret;exact ⟨ret_bool (HS.out (by simp [ho,hr1])),(thenB hb c1)⟩
        | false =>
          by_cases hb0:0<bd.length
          . skip
            go_wp2_with fail;refine (HI.out bd ab cab _ HDb'.out).mono ?_
            cases hr1:bL 1 k bd with
            | true=>
              rintro e w4 ⟨rfl,c1⟩;go_wp2_with fail;go_ret;exact ⟨ret_bool (HS.out (by simp [hr1,h4,h5,hb0])),thenB hb c1⟩
            | false=>
              rintro e w4 ⟨rfl,c1⟩;clear q0 q3 q4 q5 qz;obtain ⟨q0,q1,q2,q3,q4,q5,qz⟩:=(HB.out.later c1).c6;clear q0 q1 q2 q3 q4
              by_cases ho:0<ot.length
              . go_wp2_with fail
                refine (HI.out ot ac cac _ (HDo'.out.later c1)).mono ?_
                cases hr2:bL 1 k ot with
                | true=>
                  rintro e w5 ⟨rfl,c2⟩;go_wp2_with fail;go_ret;exact ⟨ret_bool (HS.out (by simp [hr2,ho])),thenB (thenB hb c1) c2⟩
                | false=>
                  rintro e w5 ⟨rfl,c2⟩;go_wp2_with fail;go_ret;exact ⟨ret_bool (HS.out (by simp [hr2,hr1])),thenB (thenB hb c1) c2⟩
              . go_wp2_with fail
                go_ret;exact ⟨ret_bool (HS.out (by simp [ho,hr1])),(thenB hb c1)⟩
          . skip
            by_cases ho:0<ot.length
            . go_wp2_with fail
              refine (HI.out ot ac cac _ HDo'.out).mono ?_
              cases hr2:bL 1 k ot with
              | true=>
                rintro e w5 ⟨rfl,c2⟩;go_wp2_with fail;go_ret;exact ⟨ret_bool (HS.out (by simp [hr2,ho])),thenB hb c2⟩
              | false=>
                rintro e w5 ⟨rfl,c2⟩;go_wp2_with fail;go_ret;exact ⟨ret_bool (HS.out (by simp [hr2,h4,h5,hb0])),thenB hb c2⟩
            . go_wp2_with fail
              go_ret;exact ⟨ret_bool (HS.out (by simp [ho,h4,h5,hb0])),hb⟩
end Go.Proofs.YtndkhgakfodldaaGreatDoor

namespace Go.Proofs.YtndkhgakfodldaaGreatDoor
set_option maxRecDepth 100000
set_option maxHeartbeats 8000000
open Go.RowKit Go.Maps
theorem stmtStep2 (A:Nat->Prop) (k:Nat) (op:Int) (mod name:ByteArray) (l:List Ex) (bd ot:List St) (aa ab ac:Option Addr) (cap cab cac:Nat) (deep:Int) (w:World) (hbd:l.length<=17592186044416) (hd1:1<=deep) (hd6:deep<=6)
 (HI:Hid (∀ (l:List St) (a:Option Addr) (cap:Nat) (w:World),DAt w A a l.length (stsD l)->Calls Tryz.prog 156 #[.slice a l.length cap,.int .i64 2,.int .i64 (deep+1)] w fun e w'=>e = .returned (.bool (bL 2 k l))/\Below w.heap.size w w'))
 (HD:Hid (DAt w A aa l.length (exsD l))) (HDb:Hid (DAt w A ab bd.length (stsD bd))) (HDo:Hid (DAt w A ac ot.length (stsD ot))) (_HWm:Hid (mod.size<=maxLen)) (_HWn:Hid (name.size<=maxLen)) :
 Calls Tryz.prog 191 #[.agg #[.int .i64 op,.string mod,.string name,.slice aa l.length cap,.slice ab bd.length cab,.slice ac ot.length cac],.int .i64 2,.int .i64 deep] w fun e w'=>e = .returned (.bool (sL 2 k (St.mk op mod name l bd ot)))/\Below w.heap.size w w':=by
 have HR:Hid (∀ {b:Bool},(sBad 2 (St.mk op mod name l bd ot)||(l.any (eL 2 6)||(((op == 4||op == 5)||decide (0<bd.length))&&bL 2 k bd||(decide (0<ot.length)&&bL 2 k ot))))=b->b=sL 2 k (St.mk op mod name l bd ot)):=fun h=>by rw [← h];rfl
 have HBx:Hid (Blk (w.alloc (.cells #[.int .i64 op,.string mod,.string name,.slice aa l.length cap,.slice ab bd.length cab,.slice ac ot.length cac] 176)) w.heap.size [.int .i64 op,.string mod,.string name,.slice aa l.length cap,.slice ab bd.length cab,.slice ac ot.length cac]):=Blk.new w _ _;have HB0:Hid (Below w.heap.size w (w.alloc (.cells #[.int .i64 op,.string mod,.string name,.slice aa l.length cap,.slice ab bd.length cab,.slice ac ot.length cac] 176))):=al1 _ _
 by_cases h3:3<l.length
 . have HQ:Hid (sBad 2 (St.mk op mod name l bd ot)=true):=decide_eq_true h3
   go_enter Tryz.func191,Tryz.ntmps191;go_wp2_with fail;go_ret;exact ⟨ret_bool (HR.out (by rw [HQ.out];rfl)),HB0.out⟩
 . have HQ : Hid (sBad 2 (St.mk op mod name l bd ot)=false):=decide_eq_false h3
   go_enter Tryz.func191,Tryz.ntmps191;go_wp2_with fail
   go_loopw [7] (fun i wr=>∃ j:Nat,j<=l.length/\i = .int .i64 j/\(l.take j).any (eL 2 6)=false/\Below w.heap.size w wr/\Blk wr w.heap.size [.int .i64 op,.string mod,.string name,.slice aa l.length cap,.slice ab bd.length cab,.slice ac ot.length cac]) (fun i _=>l.length - (intOf i).toNat)
   case atStart=>exact ⟨0,Nat.zero_le _,rfl,rfl,HB0.out,HBx.out⟩
   case round =>
    obtain ⟨j,hj,rfl,hall,hb,hB⟩:=hrel;clear HBx HB0;obtain ⟨q0,q1,q2,q3,q4,q5,qz⟩:=hB.c6;clear q1 q2;have HB:Hid (Blk wr w.heap.size [.int .i64 op,.string mod,.string name,.slice aa l.length cap,.slice ab bd.length cab,.slice ac ot.length cac]):=hB;have HA:Hid ((l.take j).any (eL 2 6)=false):=hall;clear hall hB
    by_cases hlt:j<l.length
    . obtain ⟨b,off,a2,cp,rfl,hx⟩:=(HD.out.later hb).ex j hlt
      have hc0:=hx.c0;have hc1:=hx.c1;have hc2:=hx.c2;have hc3:=hx.c3;have hc4:=hx.c4;have hlb:=hx.lt;have HX:Hid (ExAt wr A b (off+j*5) l[j] a2 cp):=hx;clear hx;go_wp2_with fail;refine (exprLook_any A 6 (by omega) 2 (by omega) l[j] a2 cp 1 _ (by omega) HX.out.args HX.out.wm HX.out.wna).mono ?_
      cases hr:eL 2 6 l[j] with
      | true=>
        have HF:Hid (l.any (eL 2 6)=true):=any_at l _ j hlt hr;rintro e w3 ⟨rfl,hb3⟩;go_wp2_with fail;go_ret;exact ⟨ret_bool (HR.out (by rw [HF.out];simp)),thenB hb hb3⟩
      | false=>
        have HT:Hid ((l.take (j+1)).any (eL 2 6)=false):=by
         show _=_
         rw [any_snoc l _ j hlt,HA.out,hr];rfl
        rintro e w3 ⟨rfl,hb3⟩;go_wp2_with fail;go_roundw
        case rel=>exact ⟨j+1,by omega,by go_num,HT.out,thenB hb hb3,HB.out.later hb3⟩
        case measure=>simp [intOf];omega
    . have HT : Hid (l.any (eL 2 6)=false):=any_end HA.out hlt
      have HS:Hid (∀ {b:Bool},(((op == 4||op == 5)||decide (0<bd.length))&&bL 2 k bd||(decide (0<ot.length)&&bL 2 k ot))=b->b=sL 2 k (St.mk op mod name l bd ot)):=fun h=>HR.out (by rw [HT.out,HQ.out,Bool.false_or,Bool.false_or];exact h)
      clear HR HT HA HD;have HDb':Hid (DAt wr A ab bd.length (stsD bd)):=HDb.out.later hb;have HDo':Hid (DAt wr A ac ot.length (stsD ot)):=HDo.out.later hb;clear HDb HDo
      cases h4:(op == 4) with
      | true=>
        go_wp2_with fail;refine (HI.out bd ab cab _ HDb'.out).mono ?_
        cases hr1:bL 2 k bd with
        | true=>
          rintro e w4 ⟨rfl,c1⟩;go_wp2_with fail;go_ret;exact ⟨ret_bool (HS.out (by simp [hr1,h4])),thenB hb c1⟩
        | false=>
          rintro e w4 ⟨rfl,c1⟩;clear q0 q3 q4 q5 qz;obtain ⟨q0,q1,q2,q3,q4,q5,qz⟩:=(HB.out.later c1).c6;clear q0 q1 q2 q3 q4
          by_cases ho:0<ot.length
          . go_wp2_with fail
            refine (HI.out ot ac cac _ (HDo'.out.later c1)).mono ?_
            cases hr2:bL 2 k ot with
            | true=>
              rintro e w5 ⟨rfl,c2⟩;go_wp2_with fail;go_ret;exact ⟨ret_bool (HS.out (by simp [hr2,ho])),thenB (thenB hb c1) c2⟩
            | false=>
              rintro e w5 ⟨rfl,c2⟩;go_wp2_with fail;go_ret;exact ⟨ret_bool (HS.out (by simp [hr2,hr1])),thenB (thenB hb c1) c2⟩
          . go_wp2_with fail
            go_ret;exact ⟨ret_bool (HS.out (by simp [ho,hr1])),(thenB hb c1)⟩
      | false =>
        cases h5:(op == 5) with
        | true=>
          go_wp2_with fail;refine (HI.out bd ab cab _ HDb'.out).mono ?_
          cases hr1:bL 2 k bd with
          | true=>
            rintro e w4 ⟨rfl,c1⟩;go_wp2_with fail;go_ret;exact ⟨ret_bool (HS.out (by simp [hr1,h4,h5])),thenB hb c1⟩
          | false=>
            rintro e w4 ⟨rfl,c1⟩;clear q0 q3 q4 q5 qz;obtain ⟨q0,q1,q2,q3,q4,q5,qz⟩:=(HB.out.later c1).c6;clear q0 q1 q2 q3 q4
            by_cases ho:0<ot.length
            . go_wp2_with fail
              refine (HI.out ot ac cac _ (HDo'.out.later c1)).mono ?_
              cases hr2:bL 2 k ot with
              | true=>
                rintro e w5 ⟨rfl,c2⟩;go_wp2_with fail;go_ret;exact ⟨ret_bool (HS.out (by simp [hr2,ho])),thenB (thenB hb c1) c2⟩
              | false=>
                rintro e w5 ⟨rfl,c2⟩;go_wp2_with fail;go_ret;exact ⟨ret_bool (HS.out (by simp [hr2,hr1])),thenB (thenB hb c1) c2⟩
            . go_wp2_with fail
              go_ret;exact ⟨ret_bool (HS.out (by simp [ho,hr1])),(thenB hb c1)⟩
        | false =>
          by_cases hb0:0<bd.length
          . skip
            go_wp2_with fail;refine (HI.out bd ab cab _ HDb'.out).mono ?_
            cases hr1:bL 2 k bd with
            | true=>
              rintro e w4 ⟨rfl,c1⟩;go_wp2_with fail;go_ret;exact ⟨ret_bool (HS.out (by simp [hr1,h4,h5,hb0])),thenB hb c1⟩
            | false=>
              rintro e w4 ⟨rfl,c1⟩;clear q0 q3 q4 q5 qz;obtain ⟨q0,q1,q2,q3,q4,q5,qz⟩:=(HB.out.later c1).c6;clear q0 q1 q2 q3 q4
              by_cases ho:0<ot.length
              . go_wp2_with fail
                refine (HI.out ot ac cac _ (HDo'.out.later c1)).mono ?_
                cases hr2:bL 2 k ot with
                | true=>
                  rintro e w5 ⟨rfl,c2⟩;go_wp2_with fail;go_ret;exact ⟨ret_bool (HS.out (by simp [hr2,ho])),thenB (thenB hb c1) c2⟩
                | false=>
                  rintro e w5 ⟨rfl,c2⟩;go_wp2_with fail;go_ret;exact ⟨ret_bool (HS.out (by simp [hr2,hr1])),thenB (thenB hb c1) c2⟩
              . go_wp2_with fail
                go_ret;exact ⟨ret_bool (HS.out (by simp [ho,hr1])),(thenB hb c1)⟩
          . skip
            by_cases ho:0<ot.length
            . go_wp2_with fail
              refine (HI.out ot ac cac _ HDo'.out).mono ?_
              cases hr2:bL 2 k ot with
              | true=>
                rintro e w5 ⟨rfl,c2⟩;go_wp2_with fail;go_ret;exact ⟨ret_bool (HS.out (by simp [hr2,ho])),thenB hb c2⟩
              | false=>
                rintro e w5 ⟨rfl,c2⟩;go_wp2_with fail;go_ret;exact ⟨ret_bool (HS.out (by simp [hr2,h4,h5,hb0])),thenB hb c2⟩
            . go_wp2_with fail
              go_ret;exact ⟨ret_bool (HS.out (by simp [ho,h4,h5,hb0])),hb⟩
end Go.Proofs.YtndkhgakfodldaaGreatDoor

namespace Go.Proofs.YtndkhgakfodldaaGreatDoor
set_option maxRecDepth 100000
set_option maxHeartbeats 8000000
open Go.RowKit Go.Maps
theorem stmtStep3a (A:Nat->Prop) (k:Nat) (op:Int) (mod name:ByteArray) (l:List Ex) (bd ot:List St) (aa ab ac:Option Addr) (cap cab cac:Nat) (deep:Int) (w:World) (hbd:l.length<=17592186044416) (hd1:1<=deep) (hd6:deep<=6)
 (HI:Hid (∀ (l:List St) (a:Option Addr) (cap:Nat) (w:World),DAt w A a l.length (stsD l)->Calls Tryz.prog 156 #[.slice a l.length cap,.int .i64 3,.int .i64 (deep+1)] w fun e w'=>e = .returned (.bool (bL 3 k l))/\Below w.heap.size w w'))
 (HD:Hid (DAt w A aa l.length (exsD l))) (HDb:Hid (DAt w A ab bd.length (stsD bd))) (HDo:Hid (DAt w A ac ot.length (stsD ot))) (_HWm:Hid (mod.size<=maxLen)) (_HWn:Hid (name.size<=maxLen))
 (hR:inB op 1 3=false) (hmn:mod.toList.isEmpty=false\/(mod.toList.isEmpty=true/\name.toList.isEmpty=false)) :
 Calls Tryz.prog 191 #[.agg #[.int .i64 op,.string mod,.string name,.slice aa l.length cap,.slice ab bd.length cab,.slice ac ot.length cac],.int .i64 3,.int .i64 deep] w fun e w'=>e = .returned (.bool (sL 3 k (St.mk op mod name l bd ot)))/\Below w.heap.size w w':=by
 have HR:Hid (∀ {b:Bool},(sBad 3 (St.mk op mod name l bd ot)||(l.any (eL 3 6)||(((op == 4||op == 5)||decide (0<bd.length))&&bL 3 k bd||(decide (0<ot.length)&&bL 3 k ot))))=b->b=sL 3 k (St.mk op mod name l bd ot)):=fun h=>by rw [← h];rfl
 have HBx:Hid (Blk (w.alloc (.cells #[.int .i64 op,.string mod,.string name,.slice aa l.length cap,.slice ab bd.length cab,.slice ac ot.length cac] 176)) w.heap.size [.int .i64 op,.string mod,.string name,.slice aa l.length cap,.slice ab bd.length cab,.slice ac ot.length cac]):=Blk.new w _ _;have HB0:Hid (Below w.heap.size w (w.alloc (.cells #[.int .i64 op,.string mod,.string name,.slice aa l.length cap,.slice ab bd.length cab,.slice ac ot.length cac] 176))):=al1 _ _;have HC:Hid (sBad 3 (St.mk op mod name l bd ot)=((inB op 1 3 && !fineB mod name)||(!inB op 1 3&&(!mod.toList.isEmpty || !name.toList.isEmpty))||(decide (0<=stN op)&&((l.length:Int) != stN op))||(op != 4&&op != 5&&decide (0<bd.length))||(op != 4&&decide (0<ot.length)))):=rfl;generalize hCC:sBad 3 (St.mk op mod name l bd ot)=C at HC HR;clear hCC;go_enter Tryz.func191,Tryz.ntmps191
 go_upto_region 9 with fail;generalize hW0:w.alloc (.cells #[.int .i64 op,.string mod,.string name,.slice aa l.length cap,.slice ab bd.length cab,.slice ac ot.length cac] 176)=W0 at *;clear hW0
 go_cut [92] (fun v wc=>v = .bool C/\Hid (Below W0.heap.size W0 wc))
 case first=>
  clear HD HDb HDo HI HR HB0;obtain ⟨x0,x1,x2,x3,x4,x5,xz⟩:=HBx.out.c6;have HBz:Hid (Below W0.heap.size W0 W0.drew):=(Below.refl _ _).drew;generalize hq:stN op=q at *;simp only [List.append_eq,List.cons_append,List.nil_append]
  rcases hmn with hm | ⟨hm,hn⟩
  . skip
    have HE:Hid (C=true):=by show _=_;rw [HC.out];simp [hR,hm]
    go_quiet ((first | (go_at_call 163;exact Calls.quiet_of_same (stmtRef_at hR _)) | (go_at_call 246;exact Calls.quiet_of_same (stmtArgs_at hq _))))
    go_wp2_with fail;go_meet;exact ⟨by rw [HE.out],drewN_below _ _⟩
  . skip
    have HE:Hid (C=true):=by show _=_;rw [HC.out];simp [hR,hm,hn]
    go_quiet ((first | (go_at_call 163;exact Calls.quiet_of_same (stmtRef_at hR _)) | (go_at_call 246;exact Calls.quiet_of_same (stmtArgs_at hq _))))
    go_wp2_with fail;go_meet;exact ⟨by rw [HE.out],drewN_below _ _⟩
 case rest =>
  obtain ⟨rfl,HBc⟩:=hcut;have HB0':Hid (Below w.heap.size w wc):=thenB HB0.out HBc.out;have HBx':Hid (Blk wc w.heap.size [.int .i64 op,.string mod,.string name,.slice aa l.length cap,.slice ab bd.length cab,.slice ac ot.length cac]):=HBx.out.later HBc.out;clear HB0 HBx HBc HC;have HB0:=HB0';have HBx:=HBx';clear HB0' HBx';obtain ⟨x0,x1,x2,x3,x4,x5,xz⟩:=HBx.out.c6;clear x0 x1 x2 x4 x5
  cases hCb:C with
  | true=>
    subst hCb;go_wp2_with fail;go_ret;exact ⟨ret_bool (HR.out rfl),HB0.out⟩
  | false =>
    subst hCb;go_wp2_with fail
    go_loopw [7] (fun i wr=>∃ j:Nat,j<=l.length/\i = .int .i64 j/\(l.take j).any (eL 3 6)=false/\Below w.heap.size w wr/\Blk wr w.heap.size [.int .i64 op,.string mod,.string name,.slice aa l.length cap,.slice ab bd.length cab,.slice ac ot.length cac]) (fun i _=>l.length - (intOf i).toNat)
    case atStart=>exact ⟨0,Nat.zero_le _,rfl,rfl,HB0.out,HBx.out⟩
    case round =>
     obtain ⟨j,hj,rfl,hall,hb,hB⟩:=hrel;clear HBx HB0;clear x3 xz;obtain ⟨q0,q1,q2,q3,q4,q5,qz⟩:=hB.c6;clear q1 q2;have HB:Hid (Blk wr w.heap.size [.int .i64 op,.string mod,.string name,.slice aa l.length cap,.slice ab bd.length cab,.slice ac ot.length cac]):=hB;have HA:Hid ((l.take j).any (eL 3 6)=false):=hall;clear hall hB
     by_cases hlt:j<l.length
     . obtain ⟨b,off,a2,cp,rfl,hx⟩:=(HD.out.later hb).ex j hlt
       have hc0:=hx.c0;have hc1:=hx.c1;have hc2:=hx.c2;have hc3:=hx.c3;have hc4:=hx.c4;have hlb:=hx.lt;have HX:Hid (ExAt wr A b (off+j*5) l[j] a2 cp):=hx;clear hx;go_wp2_with fail;refine (exprLook_any A 6 (by omega) 3 (by omega) l[j] a2 cp 1 _ (by omega) HX.out.args HX.out.wm HX.out.wna).mono ?_
       cases hr:eL 3 6 l[j] with
       | true=>
         have HF:Hid (l.any (eL 3 6)=true):=any_at l _ j hlt hr;rintro e w3 ⟨rfl,hb3⟩;go_wp2_with fail;go_ret;exact ⟨ret_bool (HR.out (by rw [HF.out];simp)),thenB hb hb3⟩
       | false=>
         have HT:Hid ((l.take (j+1)).any (eL 3 6)=false):=by
          show _=_
          rw [any_snoc l _ j hlt,HA.out,hr];rfl
         rintro e w3 ⟨rfl,hb3⟩;go_wp2_with fail;go_roundw
         case rel=>exact ⟨j+1,by omega,by go_num,HT.out,thenB hb hb3,HB.out.later hb3⟩
         case measure=>simp [intOf];omega
     . have HT : Hid (l.any (eL 3 6)=false):=any_end HA.out hlt
       have HS:Hid (∀ {b:Bool},(((op == 4||op == 5)||decide (0<bd.length))&&bL 3 k bd||(decide (0<ot.length)&&bL 3 k ot))=b->b=sL 3 k (St.mk op mod name l bd ot)):=fun h=>HR.out (by rw [HT.out,Bool.false_or,Bool.false_or];exact h)
       clear HR HT HA HD;have HDb':Hid (DAt wr A ab bd.length (stsD bd)):=HDb.out.later hb;have HDo':Hid (DAt wr A ac ot.length (stsD ot)):=HDo.out.later hb;clear HDb HDo
       cases h4:(op == 4) with
       | true=>
         go_wp2_with fail;refine (HI.out bd ab cab _ HDb'.out).mono ?_
         cases hr1:bL 3 k bd with
         | true=>
           rintro e w4 ⟨rfl,c1⟩;go_wp2_with fail;go_ret;exact ⟨ret_bool (HS.out (by simp [hr1,h4])),thenB hb c1⟩
         | false=>
           rintro e w4 ⟨rfl,c1⟩;clear q0 q3 q4 q5 qz;obtain ⟨q0,q1,q2,q3,q4,q5,qz⟩:=(HB.out.later c1).c6;clear q0 q1 q2 q3 q4
           by_cases ho:0<ot.length
           . go_wp2_with fail
             refine (HI.out ot ac cac _ (HDo'.out.later c1)).mono ?_
             cases hr2:bL 3 k ot with
             | true=>
               rintro e w5 ⟨rfl,c2⟩;go_wp2_with fail;go_ret;exact ⟨ret_bool (HS.out (by simp [hr2,ho])),thenB (thenB hb c1) c2⟩
             | false=>
               rintro e w5 ⟨rfl,c2⟩;go_wp2_with fail;go_ret;exact ⟨ret_bool (HS.out (by simp [hr2,hr1])),thenB (thenB hb c1) c2⟩
           . go_wp2_with fail
             go_ret;exact ⟨ret_bool (HS.out (by simp [ho,hr1])),(thenB hb c1)⟩
       | false =>
         cases h5:(op == 5) with
         | true=>
           go_wp2_with fail;refine (HI.out bd ab cab _ HDb'.out).mono ?_
           cases hr1:bL 3 k bd with
           | true=>
             rintro e w4 ⟨rfl,c1⟩;go_wp2_with fail;go_ret;exact ⟨ret_bool (HS.out (by simp [hr1,h4,h5])),thenB hb c1⟩
           | false=>
             rintro e w4 ⟨rfl,c1⟩;clear q0 q3 q4 q5 qz;obtain ⟨q0,q1,q2,q3,q4,q5,qz⟩:=(HB.out.later c1).c6;clear q0 q1 q2 q3 q4
             by_cases ho:0<ot.length
             . go_wp2_with fail
               refine (HI.out ot ac cac _ (HDo'.out.later c1)).mono ?_
               cases hr2:bL 3 k ot with
               | true=>
                 rintro e w5 ⟨rfl,c2⟩;go_wp2_with fail;go_ret;exact ⟨ret_bool (HS.out (by simp [hr2,ho])),thenB (thenB hb c1) c2⟩
               | false=>
                 rintro e w5 ⟨rfl,c2⟩;go_wp2_with fail;go_ret;exact ⟨ret_bool (HS.out (by simp [hr2,hr1])),thenB (thenB hb c1) c2⟩
             . go_wp2_with fail
               go_ret;exact ⟨ret_bool (HS.out (by simp [ho,hr1])),(thenB hb c1)⟩
         | false =>
           by_cases hb0:0<bd.length
           . skip
             go_wp2_with fail;refine (HI.out bd ab cab _ HDb'.out).mono ?_
             cases hr1:bL 3 k bd with
             | true=>
               rintro e w4 ⟨rfl,c1⟩;go_wp2_with fail;go_ret;exact ⟨ret_bool (HS.out (by simp [hr1,h4,h5,hb0])),thenB hb c1⟩
             | false=>
               rintro e w4 ⟨rfl,c1⟩;clear q0 q3 q4 q5 qz;obtain ⟨q0,q1,q2,q3,q4,q5,qz⟩:=(HB.out.later c1).c6;clear q0 q1 q2 q3 q4
               by_cases ho:0<ot.length
               . go_wp2_with fail
                 refine (HI.out ot ac cac _ (HDo'.out.later c1)).mono ?_
                 cases hr2:bL 3 k ot with
                 | true=>
                   rintro e w5 ⟨rfl,c2⟩;go_wp2_with fail;go_ret;exact ⟨ret_bool (HS.out (by simp [hr2,ho])),thenB (thenB hb c1) c2⟩
                 | false=>
                   rintro e w5 ⟨rfl,c2⟩;go_wp2_with fail;go_ret;exact ⟨ret_bool (HS.out (by simp [hr2,hr1])),thenB (thenB hb c1) c2⟩
               . go_wp2_with fail
                 go_ret;exact ⟨ret_bool (HS.out (by simp [ho,hr1])),(thenB hb c1)⟩
           . skip
             by_cases ho:0<ot.length
             . go_wp2_with fail
               refine (HI.out ot ac cac _ HDo'.out).mono ?_
               cases hr2:bL 3 k ot with
               | true=>
                 rintro e w5 ⟨rfl,c2⟩;go_wp2_with fail;go_ret;exact ⟨ret_bool (HS.out (by simp [hr2,ho])),thenB hb c2⟩
               | false=>
                 rintro e w5 ⟨rfl,c2⟩;go_wp2_with fail;go_ret;exact ⟨ret_bool (HS.out (by simp [hr2,h4,h5,hb0])),thenB hb c2⟩
             . go_wp2_with fail
               go_ret;exact ⟨ret_bool (HS.out (by simp [ho,h4,h5,hb0])),hb⟩
end Go.Proofs.YtndkhgakfodldaaGreatDoor

namespace Go.Proofs.YtndkhgakfodldaaGreatDoor
set_option maxRecDepth 100000
set_option maxHeartbeats 8000000
open Go.RowKit Go.Maps
theorem stmtStep3b (A:Nat->Prop) (k:Nat) (op:Int) (mod name:ByteArray) (l:List Ex) (bd ot:List St) (aa ab ac:Option Addr) (cap cab cac:Nat) (deep:Int) (w:World) (hbd:l.length<=17592186044416) (hd1:1<=deep) (hd6:deep<=6)
 (HI:Hid (∀ (l:List St) (a:Option Addr) (cap:Nat) (w:World),DAt w A a l.length (stsD l)->Calls Tryz.prog 156 #[.slice a l.length cap,.int .i64 3,.int .i64 (deep+1)] w fun e w'=>e = .returned (.bool (bL 3 k l))/\Below w.heap.size w w'))
 (HD:Hid (DAt w A aa l.length (exsD l))) (HDb:Hid (DAt w A ab bd.length (stsD bd))) (HDo:Hid (DAt w A ac ot.length (stsD ot))) (_HWm:Hid (mod.size<=maxLen)) (_HWn:Hid (name.size<=maxLen))
 (hR:inB op 1 3=false) (hm:mod.toList.isEmpty=true) (hn:name.toList.isEmpty=true) :
 Calls Tryz.prog 191 #[.agg #[.int .i64 op,.string mod,.string name,.slice aa l.length cap,.slice ab bd.length cab,.slice ac ot.length cac],.int .i64 3,.int .i64 deep] w fun e w'=>e = .returned (.bool (sL 3 k (St.mk op mod name l bd ot)))/\Below w.heap.size w w':=by
 have HR:Hid (∀ {b:Bool},(sBad 3 (St.mk op mod name l bd ot)||(l.any (eL 3 6)||(((op == 4||op == 5)||decide (0<bd.length))&&bL 3 k bd||(decide (0<ot.length)&&bL 3 k ot))))=b->b=sL 3 k (St.mk op mod name l bd ot)):=fun h=>by rw [← h];rfl
 have HBx:Hid (Blk (w.alloc (.cells #[.int .i64 op,.string mod,.string name,.slice aa l.length cap,.slice ab bd.length cab,.slice ac ot.length cac] 176)) w.heap.size [.int .i64 op,.string mod,.string name,.slice aa l.length cap,.slice ab bd.length cab,.slice ac ot.length cac]):=Blk.new w _ _;have HB0:Hid (Below w.heap.size w (w.alloc (.cells #[.int .i64 op,.string mod,.string name,.slice aa l.length cap,.slice ab bd.length cab,.slice ac ot.length cac] 176))):=al1 _ _;have HC:Hid (sBad 3 (St.mk op mod name l bd ot)=((inB op 1 3 && !fineB mod name)||(!inB op 1 3&&(!mod.toList.isEmpty || !name.toList.isEmpty))||(decide (0<=stN op)&&((l.length:Int) != stN op))||(op != 4&&op != 5&&decide (0<bd.length))||(op != 4&&decide (0<ot.length)))):=rfl;generalize hCC:sBad 3 (St.mk op mod name l bd ot)=C at HC HR;clear hCC;go_enter Tryz.func191,Tryz.ntmps191
 go_upto_region 9 with fail;generalize hW0:w.alloc (.cells #[.int .i64 op,.string mod,.string name,.slice aa l.length cap,.slice ab bd.length cab,.slice ac ot.length cac] 176)=W0 at *;clear hW0
 go_cut [92] (fun v wc=>v = .bool C/\Hid (Below W0.heap.size W0 wc))
 case first=>
  clear HD HDb HDo HI HR HB0;obtain ⟨x0,x1,x2,x3,x4,x5,xz⟩:=HBx.out.c6;have HBz:Hid (Below W0.heap.size W0 W0.drew):=(Below.refl _ _).drew;generalize hq:stN op=q at *;simp only [List.append_eq,List.cons_append,List.nil_append]
  have hq1:q=1:=by rw [← hq];unfold stN;rw [if_neg (by intro e;subst e;simp [inB] at hR),if_neg (by intro e;subst e;simp [inB] at hR)]
  subst hq1
  cases hl:((l.length:Int) != 1) with
  | true=>
    have HE:Hid (C=true):=by show _=_;rw [HC.out];simp [hR,hm,hn,hl]
    go_quiet ((first | (go_at_call 163;exact Calls.quiet_of_same (stmtRef_at hR _)) | (go_at_call 246;exact Calls.quiet_of_same (stmtArgs_at hq _))))
    go_wp2_with fail;go_meet;exact ⟨by rw [HE.out],drewN_below _ _⟩
  | false =>
    cases h4:(op != 4) with
    | false=>
      have HE:Hid (C=false):=by show _=_;rw [HC.out];simp [hR,hm,hn,hl,h4]
      go_quiet ((first | (go_at_call 163;exact Calls.quiet_of_same (stmtRef_at hR _)) | (go_at_call 246;exact Calls.quiet_of_same (stmtArgs_at hq _))))
      go_wp2_with fail;go_meet;exact ⟨by rw [HE.out],drewN_below _ _⟩
    | true=>
      cases h5:(op != 5) with
      | false=>
        have HE:Hid (C=decide (0<ot.length)):=by show _=_;rw [HC.out];simp [hR,hm,hn,hl,h4,h5]
        go_quiet ((first | (go_at_call 163;exact Calls.quiet_of_same (stmtRef_at hR _)) | (go_at_call 246;exact Calls.quiet_of_same (stmtArgs_at hq _))))
        go_wp2_with fail;go_meet;exact ⟨by rw [HE.out],drewN_below _ _⟩
      | true=>
        cases hb:decide (0<bd.length) with
        | true=>
          have HE:Hid (C=true):=by show _=_;rw [HC.out];simp [hR,hm,hn,hl,h4,h5,hb]
          go_quiet ((first | (go_at_call 163;exact Calls.quiet_of_same (stmtRef_at hR _)) | (go_at_call 246;exact Calls.quiet_of_same (stmtArgs_at hq _))))
          go_wp2_with fail;go_meet;exact ⟨by rw [HE.out],drewN_below _ _⟩
        | false=>
          have HE:Hid (C=decide (0<ot.length)):=by show _=_;rw [HC.out];simp [hR,hm,hn,hl,h4,h5,hb]
          go_quiet ((first | (go_at_call 163;exact Calls.quiet_of_same (stmtRef_at hR _)) | (go_at_call 246;exact Calls.quiet_of_same (stmtArgs_at hq _))))
          go_wp2_with fail;go_meet;exact ⟨by rw [HE.out],drewN_below _ _⟩
 case rest =>
  obtain ⟨rfl,HBc⟩:=hcut;have HB0':Hid (Below w.heap.size w wc):=thenB HB0.out HBc.out;have HBx':Hid (Blk wc w.heap.size [.int .i64 op,.string mod,.string name,.slice aa l.length cap,.slice ab bd.length cab,.slice ac ot.length cac]):=HBx.out.later HBc.out;clear HB0 HBx HBc HC;have HB0:=HB0';have HBx:=HBx';clear HB0' HBx';obtain ⟨x0,x1,x2,x3,x4,x5,xz⟩:=HBx.out.c6;clear x0 x1 x2 x4 x5
  cases hCb:C with
  | true=>
    subst hCb;go_wp2_with fail;go_ret;exact ⟨ret_bool (HR.out rfl),HB0.out⟩
  | false =>
    subst hCb;go_wp2_with fail
    go_loopw [7] (fun i wr=>∃ j:Nat,j<=l.length/\i = .int .i64 j/\(l.take j).any (eL 3 6)=false/\Below w.heap.size w wr/\Blk wr w.heap.size [.int .i64 op,.string mod,.string name,.slice aa l.length cap,.slice ab bd.length cab,.slice ac ot.length cac]) (fun i _=>l.length - (intOf i).toNat)
    case atStart=>exact ⟨0,Nat.zero_le _,rfl,rfl,HB0.out,HBx.out⟩
    case round =>
     obtain ⟨j,hj,rfl,hall,hb,hB⟩:=hrel;clear HBx HB0;clear x3 xz;obtain ⟨q0,q1,q2,q3,q4,q5,qz⟩:=hB.c6;clear q1 q2;have HB:Hid (Blk wr w.heap.size [.int .i64 op,.string mod,.string name,.slice aa l.length cap,.slice ab bd.length cab,.slice ac ot.length cac]):=hB;have HA:Hid ((l.take j).any (eL 3 6)=false):=hall;clear hall hB
     by_cases hlt:j<l.length
     . obtain ⟨b,off,a2,cp,rfl,hx⟩:=(HD.out.later hb).ex j hlt
       have hc0:=hx.c0;have hc1:=hx.c1;have hc2:=hx.c2;have hc3:=hx.c3;have hc4:=hx.c4;have hlb:=hx.lt;have HX:Hid (ExAt wr A b (off+j*5) l[j] a2 cp):=hx;clear hx;go_wp2_with fail;refine (exprLook_any A 6 (by omega) 3 (by omega) l[j] a2 cp 1 _ (by omega) HX.out.args HX.out.wm HX.out.wna).mono ?_
       cases hr:eL 3 6 l[j] with
       | true=>
         have HF:Hid (l.any (eL 3 6)=true):=any_at l _ j hlt hr;rintro e w3 ⟨rfl,hb3⟩;go_wp2_with fail;go_ret;exact ⟨ret_bool (HR.out (by rw [HF.out];simp)),thenB hb hb3⟩
       | false=>
         have HT:Hid ((l.take (j+1)).any (eL 3 6)=false):=by
          show _=_
          rw [any_snoc l _ j hlt,HA.out,hr];rfl
         rintro e w3 ⟨rfl,hb3⟩;go_wp2_with fail;go_roundw
         case rel=>exact ⟨j+1,by omega,by go_num,HT.out,thenB hb hb3,HB.out.later hb3⟩
         case measure=>simp [intOf];omega
     . have HT : Hid (l.any (eL 3 6)=false):=any_end HA.out hlt
       have HS:Hid (∀ {b:Bool},(((op == 4||op == 5)||decide (0<bd.length))&&bL 3 k bd||(decide (0<ot.length)&&bL 3 k ot))=b->b=sL 3 k (St.mk op mod name l bd ot)):=fun h=>HR.out (by rw [HT.out,Bool.false_or,Bool.false_or];exact h)
       clear HR HT HA HD;have HDb':Hid (DAt wr A ab bd.length (stsD bd)):=HDb.out.later hb;have HDo':Hid (DAt wr A ac ot.length (stsD ot)):=HDo.out.later hb;clear HDb HDo
       cases h4:(op == 4) with
       | true=>
         go_wp2_with fail;refine (HI.out bd ab cab _ HDb'.out).mono ?_
         cases hr1:bL 3 k bd with
         | true=>
           rintro e w4 ⟨rfl,c1⟩;go_wp2_with fail;go_ret;exact ⟨ret_bool (HS.out (by simp [hr1,h4])),thenB hb c1⟩
         | false=>
           rintro e w4 ⟨rfl,c1⟩;clear q0 q3 q4 q5 qz;obtain ⟨q0,q1,q2,q3,q4,q5,qz⟩:=(HB.out.later c1).c6;clear q0 q1 q2 q3 q4
           by_cases ho:0<ot.length
           . go_wp2_with fail
             refine (HI.out ot ac cac _ (HDo'.out.later c1)).mono ?_
             cases hr2:bL 3 k ot with
             | true=>
               rintro e w5 ⟨rfl,c2⟩;go_wp2_with fail;go_ret;exact ⟨ret_bool (HS.out (by simp [hr2,ho])),thenB (thenB hb c1) c2⟩
             | false=>
               rintro e w5 ⟨rfl,c2⟩;go_wp2_with fail;go_ret;exact ⟨ret_bool (HS.out (by simp [hr2,hr1])),thenB (thenB hb c1) c2⟩
           . go_wp2_with fail
             go_ret;exact ⟨ret_bool (HS.out (by simp [ho,hr1])),(thenB hb c1)⟩
       | false =>
         cases h5:(op == 5) with
         | true=>
           go_wp2_with fail;refine (HI.out bd ab cab _ HDb'.out).mono ?_
           cases hr1:bL 3 k bd with
           | true=>
             rintro e w4 ⟨rfl,c1⟩;go_wp2_with fail;go_ret;exact ⟨ret_bool (HS.out (by simp [hr1,h4,h5])),thenB hb c1⟩
           | false=>
             rintro e w4 ⟨rfl,c1⟩;clear q0 q3 q4 q5 qz;obtain ⟨q0,q1,q2,q3,q4,q5,qz⟩:=(HB.out.later c1).c6;clear q0 q1 q2 q3 q4
             by_cases ho:0<ot.length
             . go_wp2_with fail
               refine (HI.out ot ac cac _ (HDo'.out.later c1)).mono ?_
               cases hr2:bL 3 k ot with
               | true=>
                 rintro e w5 ⟨rfl,c2⟩;go_wp2_with fail;go_ret;exact ⟨ret_bool (HS.out (by simp [hr2,ho])),thenB (thenB hb c1) c2⟩
               | false=>
                 rintro e w5 ⟨rfl,c2⟩;go_wp2_with fail;go_ret;exact ⟨ret_bool (HS.out (by simp [hr2,hr1])),thenB (thenB hb c1) c2⟩
             . go_wp2_with fail
               go_ret;exact ⟨ret_bool (HS.out (by simp [ho,hr1])),(thenB hb c1)⟩
         | false =>
           by_cases hb0:0<bd.length
           . skip
             go_wp2_with fail;refine (HI.out bd ab cab _ HDb'.out).mono ?_
             cases hr1:bL 3 k bd with
             | true=>
               rintro e w4 ⟨rfl,c1⟩;go_wp2_with fail;go_ret;exact ⟨ret_bool (HS.out (by simp [hr1,h4,h5,hb0])),thenB hb c1⟩
             | false=>
               rintro e w4 ⟨rfl,c1⟩;clear q0 q3 q4 q5 qz;obtain ⟨q0,q1,q2,q3,q4,q5,qz⟩:=(HB.out.later c1).c6;clear q0 q1 q2 q3 q4
               by_cases ho:0<ot.length
               . go_wp2_with fail
                 refine (HI.out ot ac cac _ (HDo'.out.later c1)).mono ?_
                 cases hr2:bL 3 k ot with
                 | true=>
                   rintro e w5 ⟨rfl,c2⟩;go_wp2_with fail;go_ret;exact ⟨ret_bool (HS.out (by simp [hr2,ho])),thenB (thenB hb c1) c2⟩
                 | false=>
                   rintro e w5 ⟨rfl,c2⟩;go_wp2_with fail;go_ret;exact ⟨ret_bool (HS.out (by simp [hr2,hr1])),thenB (thenB hb c1) c2⟩
               . go_wp2_with fail
                 go_ret;exact ⟨ret_bool (HS.out (by simp [ho,hr1])),(thenB hb c1)⟩
           . skip
             by_cases ho:0<ot.length
             . go_wp2_with fail
               refine (HI.out ot ac cac _ HDo'.out).mono ?_
               cases hr2:bL 3 k ot with
               | true=>
                 rintro e w5 ⟨rfl,c2⟩;go_wp2_with fail;go_ret;exact ⟨ret_bool (HS.out (by simp [hr2,ho])),thenB hb c2⟩
               | false=>
                 rintro e w5 ⟨rfl,c2⟩;go_wp2_with fail;go_ret;exact ⟨ret_bool (HS.out (by simp [hr2,h4,h5,hb0])),thenB hb c2⟩
             . go_wp2_with fail
               go_ret;exact ⟨ret_bool (HS.out (by simp [ho,h4,h5,hb0])),hb⟩
end Go.Proofs.YtndkhgakfodldaaGreatDoor
