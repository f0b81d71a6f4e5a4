import Derived.Test.YtndkhgakfodldaaGreatDoorRbf
namespace Go.Proofs.YtndkhgakfodldaaGreatDoor
set_option maxRecDepth 100000
set_option maxHeartbeats 800000
open Go.RowKit Go.Maps
theorem zkx (A:Nat->Prop) (k:Nat) (op n:Int) (mod name:ByteArray) (l:List Ex) (aa:OA) (cap:Nat) (deep:Int) (w:World) (hbd:l.length<=17592186044416) (hd1:1<=deep) (hd6:deep<=6)
 (HI:Hid (∀ (x:Ex) (aa:OA) (cap:Nat) (w:World),DAt w A aa x.args.length (za9 x.args)->x.mod.size<=maxLen->x.name.size<=maxLen->
   Calls Tryz.prog 247 #[.agg #[.int .i64 x.op,.int .i64 x.n,.string x.mod,.string x.name,.slice aa x.args.length cap],.int .i64 3,.int .i64 (deep+1)] w fun e w'=>e = .returned (.bool (eL 3 k x))/\Below w.heap.size w w'))
 (HD:Hid (DAt w A aa l.length (za9 l))) (HWm:Hid (mod.size<=maxLen)) (HWn:Hid (name.size<=maxLen)) :
 Calls Tryz.prog 247 #[.agg #[.int .i64 op,.int .i64 n,.string mod,.string name,.slice aa l.length cap],.int .i64 3,.int .i64 deep] w fun e w'=>e = .returned (.bool (eL 3 (k+1) (.mk op n mod name l)))/\Below w.heap.size w w':=by
 cases hR:inB op 3 5 with
 | false=>
   cases hm:mod.toList.isEmpty with
   | false=>exact zlv A k op n mod name l aa cap deep w hbd hd1 hd6 HI HD HWm HWn hR (Or.inl hm)
   | true=>
     cases hn:name.toList.isEmpty with
     | false=>exact zlv A k op n mod name l aa cap deep w hbd hd1 hd6 HI HD HWm HWn hR (Or.inr ⟨hm,hn⟩)
     | true=>
       by_cases ho:op=1
       . exact zst A k op n mod name l aa cap deep w hbd hd1 hd6 HI HD HWm HWn hR hm hn ho
       . exact zsu A k op n mod name l aa cap deep w hbd hd1 hd6 HI HD HWm HWn hR hm hn ho
 | true=>
   cases hf:zc7 mod name with
   | false=>exact zsv A k op n mod name l aa cap deep w hbd hd1 hd6 HI HD HWm HWn hR hf
   | true=>exact zsw A k op n mod name l aa cap deep w hbd hd1 hd6 HI HD HWm HWn hR hf
theorem zb1 (A:Nat->Prop):∀ (k:Nat),k<=6->∀ (lv:Int),lv=1\/lv=2\/lv=3->∀ (x:Ex) (aa:OA) (cap:Nat) (deep:Int) (w:World),deep=7 - (k:Int)->DAt w A aa x.args.length (za9 x.args)->x.mod.size<=maxLen->x.name.size<=maxLen->
 Calls Tryz.prog 247 #[.agg #[.int .i64 x.op,.int .i64 x.n,.string x.mod,.string x.name,.slice aa x.args.length cap],.int .i64 lv,.int .i64 deep] w fun e w'=>e = .returned (.bool (eL lv k x))/\Below w.heap.size w w'
 | 0,_,lv,_,x,aa,cap,deep,w,hd,_,_,_=>by
   subst hd
   have HR:Hid (eL lv 0 x=(lv == 2)):=by show _=_;simp [eL]
   go_enter Tryz.func247,Tryz.ntmps247;go_wp2_with fail;go_ret;exact ⟨zab HR.out.symm,al1 _ _⟩
 | k+1,hk,lv,hlv,.mk op n mod name l,aa,cap,deep,w,hd,hD,wm,wna=>by
   simp only [Ex.op,Ex.n,Ex.mod,Ex.name,Ex.args] at hD wm wna ⊢
   have HI:Hid (∀ (x:Ex) (aa:OA) (cap:Nat) (w:World),DAt w A aa x.args.length (za9 x.args)->x.mod.size<=maxLen->x.name.size<=maxLen->
    Calls Tryz.prog 247 #[.agg #[.int .i64 x.op,.int .i64 x.n,.string x.mod,.string x.name,.slice aa x.args.length cap],.int .i64 lv,.int .i64 (deep+1)] w fun e w'=>e = .returned (.bool (eL lv k x))/\Below w.heap.size w w'):=
    fun x aa cap w h1 h2 h3=>zb1 A k (by omega) lv hlv x aa cap (deep+1) w (by omega) h1 h2 h3
   rcases hlv with rfl | rfl | rfl
   . exact zvt A k op n mod name l aa cap deep w hD.bound (by omega) (by omega) HI hD wm wna
   . exact zvu A k op n mod name l aa cap deep w hD.bound (by omega) (by omega) HI hD wm wna
   . exact zkx A k op n mod name l aa cap deep w hD.bound (by omega) (by omega) HI hD wm wna
def s3 (s:St):Bool:=(inB s.op 1 3 && !zc7 s.mod s.name)||(!inB s.op 1 3&&(!s.mod.toList.isEmpty || !s.name.toList.isEmpty))||(decide (0<=stN s.op)&&((s.args.length:Int) != stN s.op))||(s.op != 4&&s.op != 5&&decide (0<s.body.length))||(s.op != 4&&decide (0<s.other.length))
def zh8 (lv:Int) (s:St):Bool:=if lv=1 then !inB s.op 1 7 else if lv=2 then decide (3<s.args.length) else s3 s
def bL (lv:Int):Nat->List St->Bool
 | 0,_=>lv == 2
 | k+1,l=>(lv == 2&&decide (10<l.length))||l.any (fun s=>zh8 lv s||(s.args.any (eL lv 6)||(((s.op == 4||s.op == 5)||decide (0<s.body.length))&&bL lv k s.body||(decide (0<s.other.length)&&bL lv k s.other))))
def sL (lv:Int) (k:Nat) (s:St):Bool:=zh8 lv s||(s.args.any (eL lv 6)||(((s.op == 4||s.op == 5)||decide (0<s.body.length))&&bL lv k s.body||(decide (0<s.other.length)&&bL lv k s.other)))
theorem zmu (lv:Int) (k:Nat) (l:List St):bL lv (k+1) l=((lv == 2&&decide (10<l.length))||l.any (sL lv k)):=rfl
theorem za6 {op:Int} {b:Bool} (h:inB op 1 3=b) (w:World):Calls Tryz.prog 163 #[.int .i64 op] w fun e w'=>e = .returned (.bool b)/\w'=w:=by
 subst h;exact zp3 op w
theorem za7 {op q:Int} (h:stN op=q) (w:World):Calls Tryz.prog 246 #[.int .i64 op] w fun e w'=>e = .returned (.int .i64 q)/\w'=w:=by
 subst h;exact zoc op w
theorem bx6 {W0 W W':World} {b:Nat} {u0 u1 u2 u3 u4 u5:Value} (hB:Hid (Blk W0 b [u0,u1,u2,u3,u4,u5])) (h0:Hid (Below W0.heap.size W0 W)) (hb:Below W.heap.size W W') :
 Hid (Below W0.heap.size W0 W'/\W'.cell? ⟨b,0,none⟩=some u0/\W'.cell? ⟨b,1,none⟩=some u1/\W'.cell? ⟨b,2,none⟩=some u2/\W'.cell? ⟨b,3,none⟩=some u3/\W'.cell? ⟨b,4,none⟩=some u4/\W'.cell? ⟨b,5,none⟩=some u5):=by
 have h:=thenB h0.out hb;have c:=(hB.out.later h).c6;exact ⟨h,c.1,c.2.1,c.2.2.1,c.2.2.2.1,c.2.2.2.2.1,c.2.2.2.2.2.1⟩
theorem zy6 {op:Int} {mod name:ByteArray} {l:List Ex} {bd ot:List St} {b:Bool} (h:inB op 1 7=b):zh8 1 (.mk op mod name l bd ot) = !b:=by subst h;rfl
set_option maxHeartbeats 8000000
theorem zvv (A:Nat->Prop) (k:Nat) (op:Int) (mod name:ByteArray) (l:List Ex) (bd ot:List St) (aa ab ac:OA) (cap cab cac:Nat) (deep:Int) (w:World) (hbd:l.length<=17592186044416) (hd1:1<=deep) (hd6:deep<=6)
 (HI:Hid (∀ (l:List St) (a:OA) (cap:Nat) (w:World),DAt w A a l.length (za2 l)->Calls Tryz.prog 156 #[.slice a l.length cap,.int .i64 1,.int .i64 (deep+1)] w fun e w'=>e = .returned (.bool (bL 1 k l))/\Below w.heap.size w w'))
 (HD:Hid (DAt w A aa l.length (za9 l))) (HDb:Hid (DAt w A ab bd.length (za2 bd))) (HDo:Hid (DAt w A ac ot.length (za2 ot))) (_HWm:Hid (mod.size<=maxLen)) (_HWn:Hid (name.size<=maxLen)) :
 Calls Tryz.prog 191 #[.agg #[.int .i64 op,.string mod,.string name,.slice aa l.length cap,.slice ab bd.length cab,.slice ac ot.length cac],.int .i64 1,.int .i64 deep] w fun e w'=>e = .returned (.bool (sL 1 k (St.mk op mod name l bd ot)))/\Below w.heap.size w w':=by
 have HR:Hid (∀ {b:Bool},(zh8 1 (St.mk op mod name l bd ot)||(l.any (eL 1 6)||(((op == 4||op == 5)||decide (0<bd.length))&&bL 1 k bd||(decide (0<ot.length)&&bL 1 k ot))))=b->b=sL 1 k (St.mk op mod name l bd ot)):=fun h=>by rw [← h];rfl
 have HBx:Hid (Blk (w.alloc (.cells #[.int .i64 op,.string mod,.string name,.slice aa l.length cap,.slice ab bd.length cab,.slice ac ot.length cac] 176)) w.heap.size [.int .i64 op,.string mod,.string name,.slice aa l.length cap,.slice ab bd.length cab,.slice ac ot.length cac]):=Blk.new w _ _;have HB0:Hid (Below w.heap.size w (w.alloc (.cells #[.int .i64 op,.string mod,.string name,.slice aa l.length cap,.slice ab bd.length cab,.slice ac ot.length cac] 176))):=al1 _ _
 cases hK:inB op 1 7 with
 | false=>
   have HQ:Hid (zh8 1 (St.mk op mod name l bd ot)=true):=zy6 hK;go_enter Tryz.func191,Tryz.ntmps191
   go_wp2_with (go_at_call 63;refine (zbb hK _).mono ?_;rintro e w' ⟨rfl,rfl⟩)
   go_ret;exact ⟨zab (HR.out (by rw [HQ.out];rfl)),HB0.out⟩
 | true =>
   have HQ:Hid (zh8 1 (St.mk op mod name l bd ot)=false):=zy6 hK;go_enter Tryz.func191,Tryz.ntmps191
   go_wp2_with (go_at_call 63;refine (zbb hK _).mono ?_;rintro e w' ⟨rfl,rfl⟩)
   go_wp2_with fail
   go_loopw [7] (fun i wr=>∃ j:Nat,j<=l.length/\i = .int .i64 j/\(l.take j).any (eL 1 6)=false/\Below w.heap.size w wr/\Blk wr w.heap.size [.int .i64 op,.string mod,.string name,.slice aa l.length cap,.slice ab bd.length cab,.slice ac ot.length cac]) (fun i _=>l.length - (intOf i).toNat)
   case atStart=>exact ⟨0,vad _,rfl,rfl,HB0.out,HBx.out⟩
   case round =>
    obtain ⟨j,hj,rfl,hall,hb,hB⟩:=hrel;clear HBx HB0;obtain ⟨q0,q1,q2,q3,q4,q5,qz⟩:=hB.c6;clear q1 q2;have HB:Hid (Blk wr w.heap.size [.int .i64 op,.string mod,.string name,.slice aa l.length cap,.slice ab bd.length cab,.slice ac ot.length cac]):=hB;have HA:Hid ((l.take j).any (eL 1 6)=false):=hall;clear hall hB
    by_cases hlt:j<l.length
    . obtain ⟨b,off,a2,cp,rfl,hx⟩:=(HD.out.later hb).ex j hlt
      have hc0:=hx.c0;have hc1:=hx.c1;have hc2:=hx.c2;have hc3:=hx.c3;have hc4:=hx.c4;have hlb:=hx.lt;have HX:Hid (ExAt wr A b (off+j*5) l[j] a2 cp):=hx;clear hx;go_wp2_with fail;refine (zb1 A 6 (by omega) 1 (by omega) l[j] a2 cp 1 _ (by omega) HX.out.args HX.out.wm HX.out.wna).mono ?_
      cases hr:eL 1 6 l[j] with
      | true=>
        have HF:Hid (l.any (eL 1 6)=true):=zbj l _ j hlt hr;rintro e w3 ⟨rfl,hb3⟩;go_wp2_with fail;go_ret;exact ⟨zab (HR.out (by rw [HF.out];simp)),thenB hb hb3⟩
      | false=>
        have HT:Hid ((l.take (j+1)).any (eL 1 6)=false):=by
         show _=_
         rw [zat l _ j hlt,HA.out,hr];rfl
        rintro e w3 ⟨rfl,hb3⟩;go_wp2_with fail;go_roundw
        case rel=>exact ⟨j+1,by omega,by go_num,HT.out,thenB hb hb3,HB.out.later hb3⟩
        case measure=>simp [intOf];omega
    . have HT : Hid (l.any (eL 1 6)=false):=zbh HA.out hlt
      have HS:Hid (∀ {b:Bool},(((op == 4||op == 5)||decide (0<bd.length))&&bL 1 k bd||(decide (0<ot.length)&&bL 1 k ot))=b->b=sL 1 k (St.mk op mod name l bd ot)):=fun h=>HR.out (by rw [HT.out,HQ.out,vaz,vaz];exact h)
      clear HR HT HA HD;have HDb':Hid (DAt wr A ab bd.length (za2 bd)):=HDb.out.later hb;have HDo':Hid (DAt wr A ac ot.length (za2 ot)):=HDo.out.later hb;clear HDb HDo
      cases h4:(op == 4) with
      | true=>
        go_wp2_with fail;refine (HI.out bd ab cab _ HDb'.out).mono ?_
        cases hr1:bL 1 k bd with
        | true=>
          rintro e w4 ⟨rfl,c1⟩;go_wp2_with fail;go_ret;exact ⟨zab (HS.out (by simp [hr1,h4])),thenB hb c1⟩
        | false=>
          rintro e w4 ⟨rfl,c1⟩;clear q0 q3 q4 q5 qz;obtain ⟨q0,q1,q2,q3,q4,q5,qz⟩:=(HB.out.later c1).c6;clear q0 q1 q2 q3 q4
          by_cases ho:0<ot.length
          . go_wp2_with fail
            refine (HI.out ot ac cac _ (HDo'.out.later c1)).mono ?_
            cases hr2:bL 1 k ot with
            | true=>
              rintro e w5 ⟨rfl,c2⟩;go_wp2_with fail;go_ret;exact ⟨zab (HS.out (by simp [hr2,ho])),thenB (thenB hb c1) c2⟩
            | false=>
              rintro e w5 ⟨rfl,c2⟩;go_wp2_with fail;go_ret;exact ⟨zab (HS.out (by simp [hr2,hr1])),thenB (thenB hb c1) c2⟩
          . go_wp2_with fail
            go_ret;exact ⟨zab (HS.out (by simp [ho,hr1])),(thenB hb c1)⟩
      | false =>
        cases h5:(op == 5) with
        | true=>
          go_wp2_with fail;refine (HI.out bd ab cab _ HDb'.out).mono ?_
          cases hr1:bL 1 k bd with
          | true=>
            rintro e w4 ⟨rfl,c1⟩;go_wp2_with fail;go_ret;exact ⟨zab (HS.out (by simp [hr1,h4,h5])),thenB hb c1⟩
          | false=>
            rintro e w4 ⟨rfl,c1⟩;clear q0 q3 q4 q5 qz;obtain ⟨q0,q1,q2,q3,q4,q5,qz⟩:=(HB.out.later c1).c6;clear q0 q1 q2 q3 q4
            by_cases ho:0<ot.length
            . go_wp2_with fail
              refine (HI.out ot ac cac _ (HDo'.out.later c1)).mono ?_
              cases hr2:bL 1 k ot with
              | true=>
                rintro e w5 ⟨rfl,c2⟩;go_wp2_with fail;go_ret;exact ⟨zab (HS.out (by simp [hr2,ho])),thenB (thenB hb c1) c2⟩
              | false=>
                rintro e w5 ⟨rfl,c2⟩;go_wp2_with fail;go_ret;exact ⟨zab (HS.out (by simp [hr2,hr1])),thenB (thenB hb c1) c2⟩
            . go_wp2_with fail
              go_ret;exact ⟨zab (HS.out (by simp [ho,hr1])),(thenB hb c1)⟩
        | false =>
          by_cases hb0:0<bd.length
          . skip
            go_wp2_with fail;refine (HI.out bd ab cab _ HDb'.out).mono ?_
            cases hr1:bL 1 k bd with
            | true=>
              rintro e w4 ⟨rfl,c1⟩;go_wp2_with fail;go_ret;exact ⟨zab (HS.out (by simp [hr1,h4,h5,hb0])),thenB hb c1⟩
            | false=>
              rintro e w4 ⟨rfl,c1⟩;clear q0 q3 q4 q5 qz;obtain ⟨q0,q1,q2,q3,q4,q5,qz⟩:=(HB.out.later c1).c6;clear q0 q1 q2 q3 q4
              by_cases ho:0<ot.length
              . go_wp2_with fail
                refine (HI.out ot ac cac _ (HDo'.out.later c1)).mono ?_
                cases hr2:bL 1 k ot with
                | true=>
                  rintro e w5 ⟨rfl,c2⟩;go_wp2_with fail;go_ret;exact ⟨zab (HS.out (by simp [hr2,ho])),thenB (thenB hb c1) c2⟩
                | false=>
                  rintro e w5 ⟨rfl,c2⟩;go_wp2_with fail;go_ret;exact ⟨zab (HS.out (by simp [hr2,hr1])),thenB (thenB hb c1) c2⟩
              . go_wp2_with fail
                go_ret;exact ⟨zab (HS.out (by simp [ho,hr1])),(thenB hb c1)⟩
          . skip
            by_cases ho:0<ot.length
            . go_wp2_with fail
              refine (HI.out ot ac cac _ HDo'.out).mono ?_
              cases hr2:bL 1 k ot with
              | true=>
                rintro e w5 ⟨rfl,c2⟩;go_wp2_with fail;go_ret;exact ⟨zab (HS.out (by simp [hr2,ho])),thenB hb c2⟩
              | false=>
                rintro e w5 ⟨rfl,c2⟩;go_wp2_with fail;go_ret;exact ⟨zab (HS.out (by simp [hr2,h4,h5,hb0])),thenB hb c2⟩
            . go_wp2_with fail
              go_ret;exact ⟨zab (HS.out (by simp [ho,h4,h5,hb0])),hb⟩
theorem zvw (A:Nat->Prop) (k:Nat) (op:Int) (mod name:ByteArray) (l:List Ex) (bd ot:List St) (aa ab ac:OA) (cap cab cac:Nat) (deep:Int) (w:World) (hbd:l.length<=17592186044416) (hd1:1<=deep) (hd6:deep<=6)
 (HI:Hid (∀ (l:List St) (a:OA) (cap:Nat) (w:World),DAt w A a l.length (za2 l)->Calls Tryz.prog 156 #[.slice a l.length cap,.int .i64 2,.int .i64 (deep+1)] w fun e w'=>e = .returned (.bool (bL 2 k l))/\Below w.heap.size w w'))
 (HD:Hid (DAt w A aa l.length (za9 l))) (HDb:Hid (DAt w A ab bd.length (za2 bd))) (HDo:Hid (DAt w A ac ot.length (za2 ot))) (_HWm:Hid (mod.size<=maxLen)) (_HWn:Hid (name.size<=maxLen)) :
 Calls Tryz.prog 191 #[.agg #[.int .i64 op,.string mod,.string name,.slice aa l.length cap,.slice ab bd.length cab,.slice ac ot.length cac],.int .i64 2,.int .i64 deep] w fun e w'=>e = .returned (.bool (sL 2 k (St.mk op mod name l bd ot)))/\Below w.heap.size w w':=by
 have HR:Hid (∀ {b:Bool},(zh8 2 (St.mk op mod name l bd ot)||(l.any (eL 2 6)||(((op == 4||op == 5)||decide (0<bd.length))&&bL 2 k bd||(decide (0<ot.length)&&bL 2 k ot))))=b->b=sL 2 k (St.mk op mod name l bd ot)):=fun h=>by rw [← h];rfl
 have HBx:Hid (Blk (w.alloc (.cells #[.int .i64 op,.string mod,.string name,.slice aa l.length cap,.slice ab bd.length cab,.slice ac ot.length cac] 176)) w.heap.size [.int .i64 op,.string mod,.string name,.slice aa l.length cap,.slice ab bd.length cab,.slice ac ot.length cac]):=Blk.new w _ _;have HB0:Hid (Below w.heap.size w (w.alloc (.cells #[.int .i64 op,.string mod,.string name,.slice aa l.length cap,.slice ab bd.length cab,.slice ac ot.length cac] 176))):=al1 _ _
 by_cases h3:3<l.length
 . have HQ:Hid (zh8 2 (St.mk op mod name l bd ot)=true):=decide_eq_true h3
   go_enter Tryz.func191,Tryz.ntmps191;go_wp2_with fail;go_ret;exact ⟨zab (HR.out (by rw [HQ.out];rfl)),HB0.out⟩
 . have HQ : Hid (zh8 2 (St.mk op mod name l bd ot)=false):=decide_eq_false h3
   go_enter Tryz.func191,Tryz.ntmps191;go_wp2_with fail
   go_loopw [7] (fun i wr=>∃ j:Nat,j<=l.length/\i = .int .i64 j/\(l.take j).any (eL 2 6)=false/\Below w.heap.size w wr/\Blk wr w.heap.size [.int .i64 op,.string mod,.string name,.slice aa l.length cap,.slice ab bd.length cab,.slice ac ot.length cac]) (fun i _=>l.length - (intOf i).toNat)
   case atStart=>exact ⟨0,vad _,rfl,rfl,HB0.out,HBx.out⟩
   case round =>
    obtain ⟨j,hj,rfl,hall,hb,hB⟩:=hrel;clear HBx HB0;obtain ⟨q0,q1,q2,q3,q4,q5,qz⟩:=hB.c6;clear q1 q2;have HB:Hid (Blk wr w.heap.size [.int .i64 op,.string mod,.string name,.slice aa l.length cap,.slice ab bd.length cab,.slice ac ot.length cac]):=hB;have HA:Hid ((l.take j).any (eL 2 6)=false):=hall;clear hall hB
    by_cases hlt:j<l.length
    . obtain ⟨b,off,a2,cp,rfl,hx⟩:=(HD.out.later hb).ex j hlt
      have hc0:=hx.c0;have hc1:=hx.c1;have hc2:=hx.c2;have hc3:=hx.c3;have hc4:=hx.c4;have hlb:=hx.lt;have HX:Hid (ExAt wr A b (off+j*5) l[j] a2 cp):=hx;clear hx;go_wp2_with fail;refine (zb1 A 6 (by omega) 2 (by omega) l[j] a2 cp 1 _ (by omega) HX.out.args HX.out.wm HX.out.wna).mono ?_
      cases hr:eL 2 6 l[j] with
      | true=>
        have HF:Hid (l.any (eL 2 6)=true):=zbj l _ j hlt hr;rintro e w3 ⟨rfl,hb3⟩;go_wp2_with fail;go_ret;exact ⟨zab (HR.out (by rw [HF.out];simp)),thenB hb hb3⟩
      | false=>
        have HT:Hid ((l.take (j+1)).any (eL 2 6)=false):=by
         show _=_
         rw [zat l _ j hlt,HA.out,hr];rfl
        rintro e w3 ⟨rfl,hb3⟩;go_wp2_with fail;go_roundw
        case rel=>exact ⟨j+1,by omega,by go_num,HT.out,thenB hb hb3,HB.out.later hb3⟩
        case measure=>simp [intOf];omega
    . have HT : Hid (l.any (eL 2 6)=false):=zbh HA.out hlt
      have HS:Hid (∀ {b:Bool},(((op == 4||op == 5)||decide (0<bd.length))&&bL 2 k bd||(decide (0<ot.length)&&bL 2 k ot))=b->b=sL 2 k (St.mk op mod name l bd ot)):=fun h=>HR.out (by rw [HT.out,HQ.out,vaz,vaz];exact h)
      clear HR HT HA HD;have HDb':Hid (DAt wr A ab bd.length (za2 bd)):=HDb.out.later hb;have HDo':Hid (DAt wr A ac ot.length (za2 ot)):=HDo.out.later hb;clear HDb HDo
      cases h4:(op == 4) with
      | true=>
        go_wp2_with fail;refine (HI.out bd ab cab _ HDb'.out).mono ?_
        cases hr1:bL 2 k bd with
        | true=>
          rintro e w4 ⟨rfl,c1⟩;go_wp2_with fail;go_ret;exact ⟨zab (HS.out (by simp [hr1,h4])),thenB hb c1⟩
        | false=>
          rintro e w4 ⟨rfl,c1⟩;clear q0 q3 q4 q5 qz;obtain ⟨q0,q1,q2,q3,q4,q5,qz⟩:=(HB.out.later c1).c6;clear q0 q1 q2 q3 q4
          by_cases ho:0<ot.length
          . go_wp2_with fail
            refine (HI.out ot ac cac _ (HDo'.out.later c1)).mono ?_
            cases hr2:bL 2 k ot with
            | true=>
              rintro e w5 ⟨rfl,c2⟩;go_wp2_with fail;go_ret;exact ⟨zab (HS.out (by simp [hr2,ho])),thenB (thenB hb c1) c2⟩
            | false=>
              rintro e w5 ⟨rfl,c2⟩;go_wp2_with fail;go_ret;exact ⟨zab (HS.out (by simp [hr2,hr1])),thenB (thenB hb c1) c2⟩
          . go_wp2_with fail
            go_ret;exact ⟨zab (HS.out (by simp [ho,hr1])),(thenB hb c1)⟩
      | false =>
        cases h5:(op == 5) with
        | true=>
          go_wp2_with fail;refine (HI.out bd ab cab _ HDb'.out).mono ?_
          cases hr1:bL 2 k bd with
          | true=>
            rintro e w4 ⟨rfl,c1⟩;go_wp2_with fail;go_ret;exact ⟨zab (HS.out (by simp [hr1,h4,h5])),thenB hb c1⟩
          | false=>
            rintro e w4 ⟨rfl,c1⟩;clear q0 q3 q4 q5 qz;obtain ⟨q0,q1,q2,q3,q4,q5,qz⟩:=(HB.out.later c1).c6;clear q0 q1 q2 q3 q4
            by_cases ho:0<ot.length
            . go_wp2_with fail
              refine (HI.out ot ac cac _ (HDo'.out.later c1)).mono ?_
              cases hr2:bL 2 k ot with
              | true=>
                rintro e w5 ⟨rfl,c2⟩;go_wp2_with fail;go_ret;exact ⟨zab (HS.out (by simp [hr2,ho])),thenB (thenB hb c1) c2⟩
              | false=>
                rintro e w5 ⟨rfl,c2⟩;go_wp2_with fail;go_ret;exact ⟨zab (HS.out (by simp [hr2,hr1])),thenB (thenB hb c1) c2⟩
            . go_wp2_with fail
              go_ret;exact ⟨zab (HS.out (by simp [ho,hr1])),(thenB hb c1)⟩
        | false =>
          by_cases hb0:0<bd.length
          . skip
            go_wp2_with fail;refine (HI.out bd ab cab _ HDb'.out).mono ?_
            cases hr1:bL 2 k bd with
            | true=>
              rintro e w4 ⟨rfl,c1⟩;go_wp2_with fail;go_ret;exact ⟨zab (HS.out (by simp [hr1,h4,h5,hb0])),thenB hb c1⟩
            | false=>
              rintro e w4 ⟨rfl,c1⟩;clear q0 q3 q4 q5 qz;obtain ⟨q0,q1,q2,q3,q4,q5,qz⟩:=(HB.out.later c1).c6;clear q0 q1 q2 q3 q4
              by_cases ho:0<ot.length
              . go_wp2_with fail
                refine (HI.out ot ac cac _ (HDo'.out.later c1)).mono ?_
                cases hr2:bL 2 k ot with
                | true=>
                  rintro e w5 ⟨rfl,c2⟩;go_wp2_with fail;go_ret;exact ⟨zab (HS.out (by simp [hr2,ho])),thenB (thenB hb c1) c2⟩
                | false=>
                  rintro e w5 ⟨rfl,c2⟩;go_wp2_with fail;go_ret;exact ⟨zab (HS.out (by simp [hr2,hr1])),thenB (thenB hb c1) c2⟩
              . go_wp2_with fail
                go_ret;exact ⟨zab (HS.out (by simp [ho,hr1])),(thenB hb c1)⟩
          . skip
            by_cases ho:0<ot.length
            . go_wp2_with fail
              refine (HI.out ot ac cac _ HDo'.out).mono ?_
              cases hr2:bL 2 k ot with
              | true=>
                rintro e w5 ⟨rfl,c2⟩;go_wp2_with fail;go_ret;exact ⟨zab (HS.out (by simp [hr2,ho])),thenB hb c2⟩
              | false=>
                rintro e w5 ⟨rfl,c2⟩;go_wp2_with fail;go_ret;exact ⟨zab (HS.out (by simp [hr2,h4,h5,hb0])),thenB hb c2⟩
            . go_wp2_with fail
              go_ret;exact ⟨zab (HS.out (by simp [ho,h4,h5,hb0])),hb⟩
theorem zlw (A:Nat->Prop) (k:Nat) (op:Int) (mod name:ByteArray) (l:List Ex) (bd ot:List St) (aa ab ac:OA) (cap cab cac:Nat) (deep:Int) (w:World) (hbd:l.length<=17592186044416) (hd1:1<=deep) (hd6:deep<=6)
 (HI:Hid (∀ (l:List St) (a:OA) (cap:Nat) (w:World),DAt w A a l.length (za2 l)->Calls Tryz.prog 156 #[.slice a l.length cap,.int .i64 3,.int .i64 (deep+1)] w fun e w'=>e = .returned (.bool (bL 3 k l))/\Below w.heap.size w w'))
 (HD:Hid (DAt w A aa l.length (za9 l))) (HDb:Hid (DAt w A ab bd.length (za2 bd))) (HDo:Hid (DAt w A ac ot.length (za2 ot))) (_HWm:Hid (mod.size<=maxLen)) (_HWn:Hid (name.size<=maxLen))
 (hR:inB op 1 3=false) (hmn:mod.toList.isEmpty=false\/(mod.toList.isEmpty=true/\name.toList.isEmpty=false)) :
 Calls Tryz.prog 191 #[.agg #[.int .i64 op,.string mod,.string name,.slice aa l.length cap,.slice ab bd.length cab,.slice ac ot.length cac],.int .i64 3,.int .i64 deep] w fun e w'=>e = .returned (.bool (sL 3 k (St.mk op mod name l bd ot)))/\Below w.heap.size w w':=by
 have HR:Hid (∀ {b:Bool},(zh8 3 (St.mk op mod name l bd ot)||(l.any (eL 3 6)||(((op == 4||op == 5)||decide (0<bd.length))&&bL 3 k bd||(decide (0<ot.length)&&bL 3 k ot))))=b->b=sL 3 k (St.mk op mod name l bd ot)):=fun h=>by rw [← h];rfl
 have HBx:Hid (Blk (w.alloc (.cells #[.int .i64 op,.string mod,.string name,.slice aa l.length cap,.slice ab bd.length cab,.slice ac ot.length cac] 176)) w.heap.size [.int .i64 op,.string mod,.string name,.slice aa l.length cap,.slice ab bd.length cab,.slice ac ot.length cac]):=Blk.new w _ _;have HB0:Hid (Below w.heap.size w (w.alloc (.cells #[.int .i64 op,.string mod,.string name,.slice aa l.length cap,.slice ab bd.length cab,.slice ac ot.length cac] 176))):=al1 _ _;have HC:Hid (zh8 3 (St.mk op mod name l bd ot)=((inB op 1 3 && !zc7 mod name)||(!inB op 1 3&&(!mod.toList.isEmpty || !name.toList.isEmpty))||(decide (0<=stN op)&&((l.length:Int) != stN op))||(op != 4&&op != 5&&decide (0<bd.length))||(op != 4&&decide (0<ot.length)))):=rfl;generalize hCC:zh8 3 (St.mk op mod name l bd ot)=C at HC HR;clear hCC;go_enter Tryz.func191,Tryz.ntmps191
 go_upto_region 9 with fail;generalize hW0:w.alloc (.cells #[.int .i64 op,.string mod,.string name,.slice aa l.length cap,.slice ab bd.length cab,.slice ac ot.length cac] 176)=W0 at *;clear hW0
 go_cut [92] (fun v wc=>v = .bool C/\Hid (Below W0.heap.size W0 wc))
 case first=>
  clear HD HDb HDo HI HR HB0;obtain ⟨x0,x1,x2,x3,x4,x5,xz⟩:=HBx.out.c6;have HBz:Hid (Below W0.heap.size W0 W0.drew):=(Below.refl _ _).drew;generalize hq:stN op=q at *;simp only [vdg,vdb,vcb]
  rcases hmn with hm | ⟨hm,hn⟩
  . skip
    have HE:Hid (C=true):=by show _=_;rw [HC.out];simp [hR,hm]
    go_quiet ((first | (go_at_call 163;exact Calls.quiet_of_same (za6 hR _)) | (go_at_call 246;exact Calls.quiet_of_same (za7 hq _))))
    go_wp2_with fail;go_meet;exact ⟨by rw [HE.out],za3 _ _⟩
  . skip
    have HE:Hid (C=true):=by show _=_;rw [HC.out];simp [hR,hm,hn]
    go_quiet ((first | (go_at_call 163;exact Calls.quiet_of_same (za6 hR _)) | (go_at_call 246;exact Calls.quiet_of_same (za7 hq _))))
    go_wp2_with fail;go_meet;exact ⟨by rw [HE.out],za3 _ _⟩
 case rest =>
  obtain ⟨rfl,HBc⟩:=hcut;have HB0':Hid (Below w.heap.size w wc):=thenB HB0.out HBc.out;have HBx':Hid (Blk wc w.heap.size [.int .i64 op,.string mod,.string name,.slice aa l.length cap,.slice ab bd.length cab,.slice ac ot.length cac]):=HBx.out.later HBc.out;clear HB0 HBx HBc HC;have HB0:=HB0';have HBx:=HBx';clear HB0' HBx';obtain ⟨x0,x1,x2,x3,x4,x5,xz⟩:=HBx.out.c6;clear x0 x1 x2 x4 x5
  cases hCb:C with
  | true=>
    subst hCb;go_wp2_with fail;go_ret;exact ⟨zab (HR.out rfl),HB0.out⟩
  | false =>
    subst hCb;go_wp2_with fail
    go_loopw [7] (fun i wr=>∃ j:Nat,j<=l.length/\i = .int .i64 j/\(l.take j).any (eL 3 6)=false/\Below w.heap.size w wr/\Blk wr w.heap.size [.int .i64 op,.string mod,.string name,.slice aa l.length cap,.slice ab bd.length cab,.slice ac ot.length cac]) (fun i _=>l.length - (intOf i).toNat)
    case atStart=>exact ⟨0,vad _,rfl,rfl,HB0.out,HBx.out⟩
    case round =>
     obtain ⟨j,hj,rfl,hall,hb,hB⟩:=hrel;clear HBx HB0;clear x3 xz;obtain ⟨q0,q1,q2,q3,q4,q5,qz⟩:=hB.c6;clear q1 q2;have HB:Hid (Blk wr w.heap.size [.int .i64 op,.string mod,.string name,.slice aa l.length cap,.slice ab bd.length cab,.slice ac ot.length cac]):=hB;have HA:Hid ((l.take j).any (eL 3 6)=false):=hall;clear hall hB
     by_cases hlt:j<l.length
     . obtain ⟨b,off,a2,cp,rfl,hx⟩:=(HD.out.later hb).ex j hlt
       have hc0:=hx.c0;have hc1:=hx.c1;have hc2:=hx.c2;have hc3:=hx.c3;have hc4:=hx.c4;have hlb:=hx.lt;have HX:Hid (ExAt wr A b (off+j*5) l[j] a2 cp):=hx;clear hx;go_wp2_with fail;refine (zb1 A 6 (by omega) 3 (by omega) l[j] a2 cp 1 _ (by omega) HX.out.args HX.out.wm HX.out.wna).mono ?_
       cases hr:eL 3 6 l[j] with
       | true=>
         have HF:Hid (l.any (eL 3 6)=true):=zbj l _ j hlt hr;rintro e w3 ⟨rfl,hb3⟩;go_wp2_with fail;go_ret;exact ⟨zab (HR.out (by rw [HF.out];simp)),thenB hb hb3⟩
       | false=>
         have HT:Hid ((l.take (j+1)).any (eL 3 6)=false):=by
          show _=_
          rw [zat l _ j hlt,HA.out,hr];rfl
         rintro e w3 ⟨rfl,hb3⟩;go_wp2_with fail;go_roundw
         case rel=>exact ⟨j+1,by omega,by go_num,HT.out,thenB hb hb3,HB.out.later hb3⟩
         case measure=>simp [intOf];omega
     . have HT : Hid (l.any (eL 3 6)=false):=zbh HA.out hlt
       have HS:Hid (∀ {b:Bool},(((op == 4||op == 5)||decide (0<bd.length))&&bL 3 k bd||(decide (0<ot.length)&&bL 3 k ot))=b->b=sL 3 k (St.mk op mod name l bd ot)):=fun h=>HR.out (by rw [HT.out,vaz,vaz];exact h)
       clear HR HT HA HD;have HDb':Hid (DAt wr A ab bd.length (za2 bd)):=HDb.out.later hb;have HDo':Hid (DAt wr A ac ot.length (za2 ot)):=HDo.out.later hb;clear HDb HDo
       cases h4:(op == 4) with
       | true=>
         go_wp2_with fail;refine (HI.out bd ab cab _ HDb'.out).mono ?_
         cases hr1:bL 3 k bd with
         | true=>
           rintro e w4 ⟨rfl,c1⟩;go_wp2_with fail;go_ret;exact ⟨zab (HS.out (by simp [hr1,h4])),thenB hb c1⟩
         | false=>
           rintro e w4 ⟨rfl,c1⟩;clear q0 q3 q4 q5 qz;obtain ⟨q0,q1,q2,q3,q4,q5,qz⟩:=(HB.out.later c1).c6;clear q0 q1 q2 q3 q4
           by_cases ho:0<ot.length
           . go_wp2_with fail
             refine (HI.out ot ac cac _ (HDo'.out.later c1)).mono ?_
             cases hr2:bL 3 k ot with
             | true=>
               rintro e w5 ⟨rfl,c2⟩;go_wp2_with fail;go_ret;exact ⟨zab (HS.out (by simp [hr2,ho])),thenB (thenB hb c1) c2⟩
             | false=>
               rintro e w5 ⟨rfl,c2⟩;go_wp2_with fail;go_ret;exact ⟨zab (HS.out (by simp [hr2,hr1])),thenB (thenB hb c1) c2⟩
           . go_wp2_with fail
             go_ret;exact ⟨zab (HS.out (by simp [ho,hr1])),(thenB hb c1)⟩
       | false =>
         cases h5:(op == 5) with
         | true=>
           go_wp2_with fail;refine (HI.out bd ab cab _ HDb'.out).mono ?_
           cases hr1:bL 3 k bd with
           | true=>
             rintro e w4 ⟨rfl,c1⟩;go_wp2_with fail;go_ret;exact ⟨zab (HS.out (by simp [hr1,h4,h5])),thenB hb c1⟩
           | false=>
             rintro e w4 ⟨rfl,c1⟩;clear q0 q3 q4 q5 qz;obtain ⟨q0,q1,q2,q3,q4,q5,qz⟩:=(HB.out.later c1).c6;clear q0 q1 q2 q3 q4
             by_cases ho:0<ot.length
             . go_wp2_with fail
               refine (HI.out ot ac cac _ (HDo'.out.later c1)).mono ?_
               cases hr2:bL 3 k ot with
               | true=>
                 rintro e w5 ⟨rfl,c2⟩;go_wp2_with fail;go_ret;exact ⟨zab (HS.out (by simp [hr2,ho])),thenB (thenB hb c1) c2⟩
               | false=>
                 rintro e w5 ⟨rfl,c2⟩;go_wp2_with fail;go_ret;exact ⟨zab (HS.out (by simp [hr2,hr1])),thenB (thenB hb c1) c2⟩
             . go_wp2_with fail
               go_ret;exact ⟨zab (HS.out (by simp [ho,hr1])),(thenB hb c1)⟩
         | false =>
           by_cases hb0:0<bd.length
           . skip
             go_wp2_with fail;refine (HI.out bd ab cab _ HDb'.out).mono ?_
             cases hr1:bL 3 k bd with
             | true=>
               rintro e w4 ⟨rfl,c1⟩;go_wp2_with fail;go_ret;exact ⟨zab (HS.out (by simp [hr1,h4,h5,hb0])),thenB hb c1⟩
             | false=>
               rintro e w4 ⟨rfl,c1⟩;clear q0 q3 q4 q5 qz;obtain ⟨q0,q1,q2,q3,q4,q5,qz⟩:=(HB.out.later c1).c6;clear q0 q1 q2 q3 q4
               by_cases ho:0<ot.length
               . go_wp2_with fail
                 refine (HI.out ot ac cac _ (HDo'.out.later c1)).mono ?_
                 cases hr2:bL 3 k ot with
                 | true=>
                   rintro e w5 ⟨rfl,c2⟩;go_wp2_with fail;go_ret;exact ⟨zab (HS.out (by simp [hr2,ho])),thenB (thenB hb c1) c2⟩
                 | false=>
                   rintro e w5 ⟨rfl,c2⟩;go_wp2_with fail;go_ret;exact ⟨zab (HS.out (by simp [hr2,hr1])),thenB (thenB hb c1) c2⟩
               . go_wp2_with fail
                 go_ret;exact ⟨zab (HS.out (by simp [ho,hr1])),(thenB hb c1)⟩
           . skip
             by_cases ho:0<ot.length
             . go_wp2_with fail
               refine (HI.out ot ac cac _ HDo'.out).mono ?_
               cases hr2:bL 3 k ot with
               | true=>
                 rintro e w5 ⟨rfl,c2⟩;go_wp2_with fail;go_ret;exact ⟨zab (HS.out (by simp [hr2,ho])),thenB hb c2⟩
               | false=>
                 rintro e w5 ⟨rfl,c2⟩;go_wp2_with fail;go_ret;exact ⟨zab (HS.out (by simp [hr2,h4,h5,hb0])),thenB hb c2⟩
             . go_wp2_with fail
               go_ret;exact ⟨zab (HS.out (by simp [ho,h4,h5,hb0])),hb⟩
theorem zsx (A:Nat->Prop) (k:Nat) (op:Int) (mod name:ByteArray) (l:List Ex) (bd ot:List St) (aa ab ac:OA) (cap cab cac:Nat) (deep:Int) (w:World) (hbd:l.length<=17592186044416) (hd1:1<=deep) (hd6:deep<=6)
 (HI:Hid (∀ (l:List St) (a:OA) (cap:Nat) (w:World),DAt w A a l.length (za2 l)->Calls Tryz.prog 156 #[.slice a l.length cap,.int .i64 3,.int .i64 (deep+1)] w fun e w'=>e = .returned (.bool (bL 3 k l))/\Below w.heap.size w w'))
 (HD:Hid (DAt w A aa l.length (za9 l))) (HDb:Hid (DAt w A ab bd.length (za2 bd))) (HDo:Hid (DAt w A ac ot.length (za2 ot))) (_HWm:Hid (mod.size<=maxLen)) (_HWn:Hid (name.size<=maxLen))
 (hR:inB op 1 3=false) (hm:mod.toList.isEmpty=true) (hn:name.toList.isEmpty=true) :
 Calls Tryz.prog 191 #[.agg #[.int .i64 op,.string mod,.string name,.slice aa l.length cap,.slice ab bd.length cab,.slice ac ot.length cac],.int .i64 3,.int .i64 deep] w fun e w'=>e = .returned (.bool (sL 3 k (St.mk op mod name l bd ot)))/\Below w.heap.size w w':=by
 have HR:Hid (∀ {b:Bool},(zh8 3 (St.mk op mod name l bd ot)||(l.any (eL 3 6)||(((op == 4||op == 5)||decide (0<bd.length))&&bL 3 k bd||(decide (0<ot.length)&&bL 3 k ot))))=b->b=sL 3 k (St.mk op mod name l bd ot)):=fun h=>by rw [← h];rfl
 have HBx:Hid (Blk (w.alloc (.cells #[.int .i64 op,.string mod,.string name,.slice aa l.length cap,.slice ab bd.length cab,.slice ac ot.length cac] 176)) w.heap.size [.int .i64 op,.string mod,.string name,.slice aa l.length cap,.slice ab bd.length cab,.slice ac ot.length cac]):=Blk.new w _ _;have HB0:Hid (Below w.heap.size w (w.alloc (.cells #[.int .i64 op,.string mod,.string name,.slice aa l.length cap,.slice ab bd.length cab,.slice ac ot.length cac] 176))):=al1 _ _;have HC:Hid (zh8 3 (St.mk op mod name l bd ot)=((inB op 1 3 && !zc7 mod name)||(!inB op 1 3&&(!mod.toList.isEmpty || !name.toList.isEmpty))||(decide (0<=stN op)&&((l.length:Int) != stN op))||(op != 4&&op != 5&&decide (0<bd.length))||(op != 4&&decide (0<ot.length)))):=rfl;generalize hCC:zh8 3 (St.mk op mod name l bd ot)=C at HC HR;clear hCC;go_enter Tryz.func191,Tryz.ntmps191
 go_upto_region 9 with fail;generalize hW0:w.alloc (.cells #[.int .i64 op,.string mod,.string name,.slice aa l.length cap,.slice ab bd.length cab,.slice ac ot.length cac] 176)=W0 at *;clear hW0
 go_cut [92] (fun v wc=>v = .bool C/\Hid (Below W0.heap.size W0 wc))
 case first=>
  clear HD HDb HDo HI HR HB0;obtain ⟨x0,x1,x2,x3,x4,x5,xz⟩:=HBx.out.c6;have HBz:Hid (Below W0.heap.size W0 W0.drew):=(Below.refl _ _).drew;generalize hq:stN op=q at *;simp only [vdg,vdb,vcb]
  have hq1:q=1:=by rw [← hq];unfold stN;rw [if_neg (by intro e;subst e;simp [inB] at hR),if_neg (by intro e;subst e;simp [inB] at hR)]
  subst hq1
  cases hl:((l.length:Int) != 1) with
  | true=>
    have HE:Hid (C=true):=by show _=_;rw [HC.out];simp [hR,hm,hn,hl]
    go_quiet ((first | (go_at_call 163;exact Calls.quiet_of_same (za6 hR _)) | (go_at_call 246;exact Calls.quiet_of_same (za7 hq _))))
    go_wp2_with fail;go_meet;exact ⟨by rw [HE.out],za3 _ _⟩
  | false =>
    cases h4:(op != 4) with
    | false=>
      have HE:Hid (C=false):=by show _=_;rw [HC.out];simp [hR,hm,hn,hl,h4]
      go_quiet ((first | (go_at_call 163;exact Calls.quiet_of_same (za6 hR _)) | (go_at_call 246;exact Calls.quiet_of_same (za7 hq _))))
      go_wp2_with fail;go_meet;exact ⟨by rw [HE.out],za3 _ _⟩
    | true=>
      cases h5:(op != 5) with
      | false=>
        have HE:Hid (C=decide (0<ot.length)):=by show _=_;rw [HC.out];simp [hR,hm,hn,hl,h4,h5]
        go_quiet ((first | (go_at_call 163;exact Calls.quiet_of_same (za6 hR _)) | (go_at_call 246;exact Calls.quiet_of_same (za7 hq _))))
        go_wp2_with fail;go_meet;exact ⟨by rw [HE.out],za3 _ _⟩
      | true=>
        cases hb:decide (0<bd.length) with
        | true=>
          have HE:Hid (C=true):=by show _=_;rw [HC.out];simp [hR,hm,hn,hl,h4,h5,hb]
          go_quiet ((first | (go_at_call 163;exact Calls.quiet_of_same (za6 hR _)) | (go_at_call 246;exact Calls.quiet_of_same (za7 hq _))))
          go_wp2_with fail;go_meet;exact ⟨by rw [HE.out],za3 _ _⟩
        | false=>
          have HE:Hid (C=decide (0<ot.length)):=by show _=_;rw [HC.out];simp [hR,hm,hn,hl,h4,h5,hb]
          go_quiet ((first | (go_at_call 163;exact Calls.quiet_of_same (za6 hR _)) | (go_at_call 246;exact Calls.quiet_of_same (za7 hq _))))
          go_wp2_with fail;go_meet;exact ⟨by rw [HE.out],za3 _ _⟩
 case rest =>
  obtain ⟨rfl,HBc⟩:=hcut;have HB0':Hid (Below w.heap.size w wc):=thenB HB0.out HBc.out;have HBx':Hid (Blk wc w.heap.size [.int .i64 op,.string mod,.string name,.slice aa l.length cap,.slice ab bd.length cab,.slice ac ot.length cac]):=HBx.out.later HBc.out;clear HB0 HBx HBc HC;have HB0:=HB0';have HBx:=HBx';clear HB0' HBx';obtain ⟨x0,x1,x2,x3,x4,x5,xz⟩:=HBx.out.c6;clear x0 x1 x2 x4 x5
  cases hCb:C with
  | true=>
    subst hCb;go_wp2_with fail;go_ret;exact ⟨zab (HR.out rfl),HB0.out⟩
  | false =>
    subst hCb;go_wp2_with fail
    go_loopw [7] (fun i wr=>∃ j:Nat,j<=l.length/\i = .int .i64 j/\(l.take j).any (eL 3 6)=false/\Below w.heap.size w wr/\Blk wr w.heap.size [.int .i64 op,.string mod,.string name,.slice aa l.length cap,.slice ab bd.length cab,.slice ac ot.length cac]) (fun i _=>l.length - (intOf i).toNat)
    case atStart=>exact ⟨0,vad _,rfl,rfl,HB0.out,HBx.out⟩
    case round =>
     obtain ⟨j,hj,rfl,hall,hb,hB⟩:=hrel;clear HBx HB0;clear x3 xz;obtain ⟨q0,q1,q2,q3,q4,q5,qz⟩:=hB.c6;clear q1 q2;have HB:Hid (Blk wr w.heap.size [.int .i64 op,.string mod,.string name,.slice aa l.length cap,.slice ab bd.length cab,.slice ac ot.length cac]):=hB;have HA:Hid ((l.take j).any (eL 3 6)=false):=hall;clear hall hB
     by_cases hlt:j<l.length
     . obtain ⟨b,off,a2,cp,rfl,hx⟩:=(HD.out.later hb).ex j hlt
       have hc0:=hx.c0;have hc1:=hx.c1;have hc2:=hx.c2;have hc3:=hx.c3;have hc4:=hx.c4;have hlb:=hx.lt;have HX:Hid (ExAt wr A b (off+j*5) l[j] a2 cp):=hx;clear hx;go_wp2_with fail;refine (zb1 A 6 (by omega) 3 (by omega) l[j] a2 cp 1 _ (by omega) HX.out.args HX.out.wm HX.out.wna).mono ?_
       cases hr:eL 3 6 l[j] with
       | true=>
         have HF:Hid (l.any (eL 3 6)=true):=zbj l _ j hlt hr;rintro e w3 ⟨rfl,hb3⟩;go_wp2_with fail;go_ret;exact ⟨zab (HR.out (by rw [HF.out];simp)),thenB hb hb3⟩
       | false=>
         have HT:Hid ((l.take (j+1)).any (eL 3 6)=false):=by
          show _=_
          rw [zat l _ j hlt,HA.out,hr];rfl
         rintro e w3 ⟨rfl,hb3⟩;go_wp2_with fail;go_roundw
         case rel=>exact ⟨j+1,by omega,by go_num,HT.out,thenB hb hb3,HB.out.later hb3⟩
         case measure=>simp [intOf];omega
     . have HT : Hid (l.any (eL 3 6)=false):=zbh HA.out hlt
       have HS:Hid (∀ {b:Bool},(((op == 4||op == 5)||decide (0<bd.length))&&bL 3 k bd||(decide (0<ot.length)&&bL 3 k ot))=b->b=sL 3 k (St.mk op mod name l bd ot)):=fun h=>HR.out (by rw [HT.out,vaz,vaz];exact h)
       clear HR HT HA HD;have HDb':Hid (DAt wr A ab bd.length (za2 bd)):=HDb.out.later hb;have HDo':Hid (DAt wr A ac ot.length (za2 ot)):=HDo.out.later hb;clear HDb HDo
       cases h4:(op == 4) with
       | true=>
         go_wp2_with fail;refine (HI.out bd ab cab _ HDb'.out).mono ?_
         cases hr1:bL 3 k bd with
         | true=>
           rintro e w4 ⟨rfl,c1⟩;go_wp2_with fail;go_ret;exact ⟨zab (HS.out (by simp [hr1,h4])),thenB hb c1⟩
         | false=>
           rintro e w4 ⟨rfl,c1⟩;clear q0 q3 q4 q5 qz;obtain ⟨q0,q1,q2,q3,q4,q5,qz⟩:=(HB.out.later c1).c6;clear q0 q1 q2 q3 q4
           by_cases ho:0<ot.length
           . go_wp2_with fail
             refine (HI.out ot ac cac _ (HDo'.out.later c1)).mono ?_
             cases hr2:bL 3 k ot with
             | true=>
               rintro e w5 ⟨rfl,c2⟩;go_wp2_with fail;go_ret;exact ⟨zab (HS.out (by simp [hr2,ho])),thenB (thenB hb c1) c2⟩
             | false=>
               rintro e w5 ⟨rfl,c2⟩;go_wp2_with fail;go_ret;exact ⟨zab (HS.out (by simp [hr2,hr1])),thenB (thenB hb c1) c2⟩
           . go_wp2_with fail
             go_ret;exact ⟨zab (HS.out (by simp [ho,hr1])),(thenB hb c1)⟩
       | false =>
         cases h5:(op == 5) with
         | true=>
           go_wp2_with fail;refine (HI.out bd ab cab _ HDb'.out).mono ?_
           cases hr1:bL 3 k bd with
           | true=>
             rintro e w4 ⟨rfl,c1⟩;go_wp2_with fail;go_ret;exact ⟨zab (HS.out (by simp [hr1,h4,h5])),thenB hb c1⟩
           | false=>
             rintro e w4 ⟨rfl,c1⟩;clear q0 q3 q4 q5 qz;obtain ⟨q0,q1,q2,q3,q4,q5,qz⟩:=(HB.out.later c1).c6;clear q0 q1 q2 q3 q4
             by_cases ho:0<ot.length
             . go_wp2_with fail
               refine (HI.out ot ac cac _ (HDo'.out.later c1)).mono ?_
               cases hr2:bL 3 k ot with
               | true=>
                 rintro e w5 ⟨rfl,c2⟩;go_wp2_with fail;go_ret;exact ⟨zab (HS.out (by simp [hr2,ho])),thenB (thenB hb c1) c2⟩
               | false=>
                 rintro e w5 ⟨rfl,c2⟩;go_wp2_with fail;go_ret;exact ⟨zab (HS.out (by simp [hr2,hr1])),thenB (thenB hb c1) c2⟩
             . go_wp2_with fail
               go_ret;exact ⟨zab (HS.out (by simp [ho,hr1])),(thenB hb c1)⟩
         | false =>
           by_cases hb0:0<bd.length
           . skip
             go_wp2_with fail;refine (HI.out bd ab cab _ HDb'.out).mono ?_
             cases hr1:bL 3 k bd with
             | true=>
               rintro e w4 ⟨rfl,c1⟩;go_wp2_with fail;go_ret;exact ⟨zab (HS.out (by simp [hr1,h4,h5,hb0])),thenB hb c1⟩
             | false=>
               rintro e w4 ⟨rfl,c1⟩;clear q0 q3 q4 q5 qz;obtain ⟨q0,q1,q2,q3,q4,q5,qz⟩:=(HB.out.later c1).c6;clear q0 q1 q2 q3 q4
               by_cases ho:0<ot.length
               . go_wp2_with fail
                 refine (HI.out ot ac cac _ (HDo'.out.later c1)).mono ?_
                 cases hr2:bL 3 k ot with
                 | true=>
                   rintro e w5 ⟨rfl,c2⟩;go_wp2_with fail;go_ret;exact ⟨zab (HS.out (by simp [hr2,ho])),thenB (thenB hb c1) c2⟩
                 | false=>
                   rintro e w5 ⟨rfl,c2⟩;go_wp2_with fail;go_ret;exact ⟨zab (HS.out (by simp [hr2,hr1])),thenB (thenB hb c1) c2⟩
               . go_wp2_with fail
                 go_ret;exact ⟨zab (HS.out (by simp [ho,hr1])),(thenB hb c1)⟩
           . skip
             by_cases ho:0<ot.length
             . go_wp2_with fail
               refine (HI.out ot ac cac _ HDo'.out).mono ?_
               cases hr2:bL 3 k ot with
               | true=>
                 rintro e w5 ⟨rfl,c2⟩;go_wp2_with fail;go_ret;exact ⟨zab (HS.out (by simp [hr2,ho])),thenB hb c2⟩
               | false=>
                 rintro e w5 ⟨rfl,c2⟩;go_wp2_with fail;go_ret;exact ⟨zab (HS.out (by simp [hr2,h4,h5,hb0])),thenB hb c2⟩
             . go_wp2_with fail
               go_ret;exact ⟨zab (HS.out (by simp [ho,h4,h5,hb0])),hb⟩
theorem zsy (A:Nat->Prop) (k:Nat) (op:Int) (mod name:ByteArray) (l:List Ex) (bd ot:List St) (aa ab ac:OA) (cap cab cac:Nat) (deep:Int) (w:World) (hbd:l.length<=17592186044416) (hd1:1<=deep) (hd6:deep<=6)
 (HI:Hid (∀ (l:List St) (a:OA) (cap:Nat) (w:World),DAt w A a l.length (za2 l)->Calls Tryz.prog 156 #[.slice a l.length cap,.int .i64 3,.int .i64 (deep+1)] w fun e w'=>e = .returned (.bool (bL 3 k l))/\Below w.heap.size w w'))
 (HD:Hid (DAt w A aa l.length (za9 l))) (HDb:Hid (DAt w A ab bd.length (za2 bd))) (HDo:Hid (DAt w A ac ot.length (za2 ot))) (HWm:Hid (mod.size<=maxLen)) (HWn:Hid (name.size<=maxLen))
 (hR:inB op 1 3=true) (hf:zc7 mod name=false) :
 Calls Tryz.prog 191 #[.agg #[.int .i64 op,.string mod,.string name,.slice aa l.length cap,.slice ab bd.length cab,.slice ac ot.length cac],.int .i64 3,.int .i64 deep] w fun e w'=>e = .returned (.bool (sL 3 k (St.mk op mod name l bd ot)))/\Below w.heap.size w w':=by
 have HR:Hid (∀ {b:Bool},(zh8 3 (St.mk op mod name l bd ot)||(l.any (eL 3 6)||(((op == 4||op == 5)||decide (0<bd.length))&&bL 3 k bd||(decide (0<ot.length)&&bL 3 k ot))))=b->b=sL 3 k (St.mk op mod name l bd ot)):=fun h=>by rw [← h];rfl
 have HBx:Hid (Blk (w.alloc (.cells #[.int .i64 op,.string mod,.string name,.slice aa l.length cap,.slice ab bd.length cab,.slice ac ot.length cac] 176)) w.heap.size [.int .i64 op,.string mod,.string name,.slice aa l.length cap,.slice ab bd.length cab,.slice ac ot.length cac]):=Blk.new w _ _;have HB0:Hid (Below w.heap.size w (w.alloc (.cells #[.int .i64 op,.string mod,.string name,.slice aa l.length cap,.slice ab bd.length cab,.slice ac ot.length cac] 176))):=al1 _ _;have HC:Hid (zh8 3 (St.mk op mod name l bd ot)=((inB op 1 3 && !zc7 mod name)||(!inB op 1 3&&(!mod.toList.isEmpty || !name.toList.isEmpty))||(decide (0<=stN op)&&((l.length:Int) != stN op))||(op != 4&&op != 5&&decide (0<bd.length))||(op != 4&&decide (0<ot.length)))):=rfl;generalize hCC:zh8 3 (St.mk op mod name l bd ot)=C at HC HR;clear hCC;go_enter Tryz.func191,Tryz.ntmps191
 go_upto_region 9 with fail;generalize hW0:w.alloc (.cells #[.int .i64 op,.string mod,.string name,.slice aa l.length cap,.slice ab bd.length cab,.slice ac ot.length cac] 176)=W0 at *;clear hW0
 go_cut [92] (fun v wc=>v = .bool C/\Hid (Below W0.heap.size W0 wc))
 case first=>
  clear HD HDb HDo HI HR HB0;obtain ⟨x0,x1,x2,x3,x4,x5,xz⟩:=HBx.out.c6;have HBz:Hid (Below W0.heap.size W0 W0.drew):=(Below.refl _ _).drew;generalize hq:stN op=q at *;simp only [vdg,vdb,vcb]
  have HE:Hid (C=true):=by show _=_;rw [HC.out];simp [hR,hf]
  refine wp_region_held_drew (S:=(fun W=>W.cell? ⟨w.heap.size,0,none⟩=some (.int .i64 op)/\W.cell? ⟨w.heap.size,1,none⟩=some (.string mod)/\W.cell? ⟨w.heap.size,2,none⟩=some (.string name)/\W.cell? ⟨w.heap.size,3,none⟩=some (.slice aa l.length cap)/\W.cell? ⟨w.heap.size,4,none⟩=some (.slice ab bd.length cab)/\W.cell? ⟨w.heap.size,5,none⟩=some (.slice ac ot.length cac))) (by kernel_rfl) ?_ (fun hHeld=>?_)
  . (try dsimp only);go_keep
  refine tqr 0 24 hHeld ?_
  (try simp only [Act.put,sx])
  refine tqr 1 25 hHeld ?_
  (try simp only [Act.put,sx])
  refine wpAnyH_ready (rs:=[2]) (by kernel_rfl) (by simp) ?_;refine AllReadyH.cons rfl (fun K hK=>?_) AllReadyH.nil;go_simp
  go_wp2_with (go_at_call 163;refine (za6 hR _).mono ?_;rintro e w' ⟨rfl,rfl⟩)
  refine hK.out _ _ hHeld (fun hHeld=>?_);clear hK K;refine tqr 3 27 hHeld ?_
  (try simp only [Act.put,sx])
  refine tqr 4 28 hHeld ?_
  (try simp only [Act.put,sx])
  refine tqr 5 29 hHeld ?_
  (try simp only [Act.put,sx])
  refine tqr 6 30 hHeld ?_
  (try simp only [Act.put,sx])
  refine tqr 7 31 hHeld ?_
  (try simp only [Act.put,sx])
  refine wpAnyH_ready (rs:=[8]) (by kernel_rfl) (by simp) ?_;refine AllReadyH.cons rfl (fun K hK=>?_) AllReadyH.nil;go_simp
  go_wp2_with (go_at_call 245;refine (zby hf _ HWm.out HWn.out).mono ?_;rintro e w' ⟨rfl,hb⟩)
  have FF:=bx6 HBx HBz hb;clear hb;refine hK.out _ _ FF.out.2 (fun hHeld=>?_);clear hK K;refine tqr 9 33 hHeld ?_
  (try simp only [Act.put,sx])
  refine tqr 10 34 hHeld ?_
  (try simp only [Act.put,sx])
  refine tqr 11 35 hHeld ?_
  (try simp only [Act.put,sx])
  refine tk (i:=12) (oi:=⟨some 36,_,_,_,_,_⟩) (v:=undef) rfl (by kernel_rfl) (fun _ _ _ h=>h) (Or.inr ⟨by rfl,rfl⟩) hHeld ?rb12
  (try simp only [Act.put,sx])
  refine tk (i:=13) (oi:=⟨some 37,_,_,_,_,_⟩) (v:=undef) rfl (by kernel_rfl) (fun _ _ _ h=>h) (Or.inr ⟨by rfl,rfl⟩) hHeld ?rb13
  (try simp only [Act.put,sx])
  refine tk (i:=14) (oi:=⟨some 38,_,_,_,_,_⟩) (v:=undef) rfl (by kernel_rfl) (fun _ _ _ h=>h) (Or.inr ⟨by rfl,rfl⟩) hHeld ?rb14
  (try simp only [Act.put,sx])
  refine tk (i:=15) (oi:=⟨some 39,_,_,_,_,_⟩) (v:=undef) rfl (by kernel_rfl) (fun _ _ _ h=>h) (Or.inr ⟨by rfl,rfl⟩) hHeld ?rb15
  (try simp only [Act.put,sx])
  refine tk (i:=16) (oi:=⟨some 40,_,_,_,_,_⟩) (v:=undef) rfl (by kernel_rfl) (fun _ _ _ h=>h) (Or.inr ⟨by rfl,rfl⟩) hHeld ?rb16
  (try simp only [Act.put,sx])
  refine tk (i:=17) (oi:=⟨some 41,_,_,_,_,_⟩) (v:=undef) rfl (by kernel_rfl) (fun _ _ _ h=>h) (Or.inr ⟨by rfl,rfl⟩) hHeld ?rb17
  (try simp only [Act.put,sx])
  refine tk (i:=18) (oi:=⟨some 42,_,_,_,_,_⟩) (v:=undef) rfl (by kernel_rfl) (fun _ _ _ h=>h) (Or.inr ⟨by rfl,rfl⟩) hHeld ?rb18
  (try simp only [Act.put,sx])
  refine tk (i:=19) (oi:=⟨some 43,_,_,_,_,_⟩) (v:=undef) rfl (by kernel_rfl) (fun _ _ _ h=>h) (Or.inr ⟨by rfl,rfl⟩) hHeld ?rb19
  (try simp only [Act.put,sx])
  refine tk (i:=20) (oi:=⟨some 44,_,_,_,_,_⟩) (v:=undef) rfl (by kernel_rfl) (fun _ _ _ h=>h) (Or.inr ⟨by rfl,rfl⟩) hHeld ?rb20
  (try simp only [Act.put,sx])
  refine tk (i:=21) (oi:=⟨some 45,_,_,_,_,_⟩) (v:=undef) rfl (by kernel_rfl) (fun _ _ _ h=>h) (Or.inr ⟨by rfl,rfl⟩) hHeld ?rb21
  (try simp only [Act.put,sx])
  refine tk (i:=22) (oi:=⟨some 46,_,_,_,_,_⟩) (v:=undef) rfl (by kernel_rfl) (fun _ _ _ h=>h) (Or.inr ⟨by rfl,rfl⟩) hHeld ?rb22
  (try simp only [Act.put,sx])
  refine tk (i:=23) (oi:=⟨some 47,_,_,_,_,_⟩) (v:=undef) rfl (by kernel_rfl) (fun _ _ _ h=>h) (Or.inr ⟨by rfl,rfl⟩) hHeld ?rb23
  (try simp only [Act.put,sx])
  refine tk (i:=24) (oi:=⟨some 48,_,_,_,_,_⟩) (v:=undef) rfl (by kernel_rfl) (fun _ _ _ h=>h) (Or.inr ⟨by rfl,rfl⟩) hHeld ?rb24
  (try simp only [Act.put,sx])
  refine tk (i:=25) (oi:=⟨some 49,_,_,_,_,_⟩) (v:=undef) rfl (by kernel_rfl) (fun _ _ _ h=>h) (Or.inr ⟨by rfl,rfl⟩) hHeld ?rb25
  (try simp only [Act.put,sx])
  refine tqr 26 50 hHeld ?_
  (try simp only [Act.put,sx])
  refine tqr 27 51 hHeld ?_
  (try simp only [Act.put,sx])
  refine tk (i:=28) (oi:=⟨some 52,_,_,_,_,_⟩) (v:=undef) rfl (by kernel_rfl) (fun _ _ _ h=>h) (Or.inr ⟨by rfl,rfl⟩) hHeld ?rb28
  (try simp only [Act.put,sx])
  refine tk (i:=29) (oi:=⟨some 53,_,_,_,_,_⟩) (v:=undef) rfl (by kernel_rfl) (fun _ _ _ h=>h) (Or.inr ⟨by rfl,rfl⟩) hHeld ?rb29
  (try simp only [Act.put,sx])
  refine tk (i:=30) (oi:=⟨some 54,_,_,_,_,_⟩) (v:=undef) rfl (by kernel_rfl) (fun _ _ _ h=>h) (Or.inr ⟨by rfl,rfl⟩) hHeld ?rb30
  (try simp only [Act.put,sx])
  refine tk (i:=31) (oi:=⟨some 55,_,_,_,_,_⟩) (v:=undef) rfl (by kernel_rfl) (fun _ _ _ h=>h) (Or.inr ⟨by rfl,rfl⟩) hHeld ?rb31
  (try simp only [Act.put,sx])
  refine tk (i:=32) (oi:=⟨some 56,_,_,_,_,_⟩) (v:=undef) rfl (by kernel_rfl) (fun _ _ _ h=>h) (Or.inr ⟨by rfl,rfl⟩) hHeld ?rb32
  (try simp only [Act.put,sx])
  refine tk (i:=33) (oi:=⟨some 57,_,_,_,_,_⟩) (v:=undef) rfl (by kernel_rfl) (fun _ _ _ h=>h) (Or.inr ⟨by rfl,rfl⟩) hHeld ?rb33
  (try simp only [Act.put,sx])
  refine tk (i:=34) (oi:=⟨some 58,_,_,_,_,_⟩) (v:=undef) rfl (by kernel_rfl) (fun _ _ _ h=>h) (Or.inr ⟨by rfl,rfl⟩) hHeld ?rb34
  (try simp only [Act.put,sx])
  refine tk (i:=35) (oi:=⟨some 59,_,_,_,_,_⟩) (v:=undef) rfl (by kernel_rfl) (fun _ _ _ h=>h) (Or.inr ⟨by rfl,rfl⟩) hHeld ?rb35
  (try simp only [Act.put,sx])
  refine tk (i:=36) (oi:=⟨some 60,_,_,_,_,_⟩) (v:=undef) rfl (by kernel_rfl) (fun _ _ _ h=>h) (Or.inr ⟨by rfl,rfl⟩) hHeld ?rb36
  (try simp only [Act.put,sx])
  refine tk (i:=37) (oi:=⟨some 61,_,_,_,_,_⟩) (v:=undef) rfl (by kernel_rfl) (fun _ _ _ h=>h) (Or.inr ⟨by rfl,rfl⟩) hHeld ?rb37
  (try simp only [Act.put,sx])
  refine tk (i:=38) (oi:=⟨some 62,_,_,_,_,_⟩) (v:=undef) rfl (by kernel_rfl) (fun _ _ _ h=>h) (Or.inr ⟨by rfl,rfl⟩) hHeld ?rb38
  (try simp only [Act.put,sx])
  refine tk (i:=39) (oi:=⟨some 63,_,_,_,_,_⟩) (v:=undef) rfl (by kernel_rfl) (fun _ _ _ h=>h) (Or.inr ⟨by rfl,rfl⟩) hHeld ?rb39
  (try simp only [Act.put,sx])
  refine tk (i:=40) (oi:=⟨some 64,_,_,_,_,_⟩) (v:=undef) rfl (by kernel_rfl) (fun _ _ _ h=>h) (Or.inr ⟨by rfl,rfl⟩) hHeld ?rb40
  (try simp only [Act.put,sx])
  refine tqr 41 65 hHeld ?_
  (try simp only [Act.put,sx])
  refine tqr 42 66 hHeld ?_
  (try simp only [Act.put,sx])
  refine tk (i:=43) (oi:=⟨some 67,_,_,_,_,_⟩) (v:=undef) rfl (by kernel_rfl) (fun _ _ _ h=>h) (Or.inr ⟨by rfl,rfl⟩) hHeld ?rb43
  (try simp only [Act.put,sx])
  refine tk (i:=44) (oi:=⟨some 68,_,_,_,_,_⟩) (v:=undef) rfl (by kernel_rfl) (fun _ _ _ h=>h) (Or.inr ⟨by rfl,rfl⟩) hHeld ?rb44
  (try simp only [Act.put,sx])
  refine tk (i:=45) (oi:=⟨some 69,_,_,_,_,_⟩) (v:=undef) rfl (by kernel_rfl) (fun _ _ _ h=>h) (Or.inr ⟨by rfl,rfl⟩) hHeld ?rb45
  (try simp only [Act.put,sx])
  refine tk (i:=46) (oi:=⟨some 70,_,_,_,_,_⟩) (v:=undef) rfl (by kernel_rfl) (fun _ _ _ h=>h) (Or.inr ⟨by rfl,rfl⟩) hHeld ?rb46
  (try simp only [Act.put,sx])
  refine tk (i:=47) (oi:=⟨some 71,_,_,_,_,_⟩) (v:=undef) rfl (by kernel_rfl) (fun _ _ _ h=>h) (Or.inr ⟨by rfl,rfl⟩) hHeld ?rb47
  (try simp only [Act.put,sx])
  refine tk (i:=48) (oi:=⟨some 72,_,_,_,_,_⟩) (v:=undef) rfl (by kernel_rfl) (fun _ _ _ h=>h) (Or.inr ⟨by rfl,rfl⟩) hHeld ?rb48
  (try simp only [Act.put,sx])
  refine tk (i:=49) (oi:=⟨some 73,_,_,_,_,_⟩) (v:=undef) rfl (by kernel_rfl) (fun _ _ _ h=>h) (Or.inr ⟨by rfl,rfl⟩) hHeld ?rb49
  (try simp only [Act.put,sx])
  refine tk (i:=50) (oi:=⟨some 74,_,_,_,_,_⟩) (v:=undef) rfl (by kernel_rfl) (fun _ _ _ h=>h) (Or.inr ⟨by rfl,rfl⟩) hHeld ?rb50
  (try simp only [Act.put,sx])
  refine tk (i:=51) (oi:=⟨some 75,_,_,_,_,_⟩) (v:=undef) rfl (by kernel_rfl) (fun _ _ _ h=>h) (Or.inr ⟨by rfl,rfl⟩) hHeld ?rb51
  (try simp only [Act.put,sx])
  refine tk (i:=52) (oi:=⟨some 76,_,_,_,_,_⟩) (v:=undef) rfl (by kernel_rfl) (fun _ _ _ h=>h) (Or.inr ⟨by rfl,rfl⟩) hHeld ?rb52
  (try simp only [Act.put,sx])
  refine tk (i:=53) (oi:=⟨some 77,_,_,_,_,_⟩) (v:=undef) rfl (by kernel_rfl) (fun _ _ _ h=>h) (Or.inr ⟨by rfl,rfl⟩) hHeld ?rb53
  (try simp only [Act.put,sx])
  refine tk (i:=54) (oi:=⟨some 78,_,_,_,_,_⟩) (v:=undef) rfl (by kernel_rfl) (fun _ _ _ h=>h) (Or.inr ⟨by rfl,rfl⟩) hHeld ?rb54
  (try simp only [Act.put,sx])
  refine tk (i:=55) (oi:=⟨some 79,_,_,_,_,_⟩) (v:=undef) rfl (by kernel_rfl) (fun _ _ _ h=>h) (Or.inr ⟨by rfl,rfl⟩) hHeld ?rb55
  (try simp only [Act.put,sx])
  refine tk (i:=56) (oi:=⟨some 80,_,_,_,_,_⟩) (v:=undef) rfl (by kernel_rfl) (fun _ _ _ h=>h) (Or.inr ⟨by rfl,rfl⟩) hHeld ?rb56
  (try simp only [Act.put,sx])
  refine tqr 57 81 hHeld ?_
  (try simp only [Act.put,sx])
  refine tqr 58 82 hHeld ?_
  (try simp only [Act.put,sx])
  refine tk (i:=59) (oi:=⟨some 83,_,_,_,_,_⟩) (v:=undef) rfl (by kernel_rfl) (fun _ _ _ h=>h) (Or.inr ⟨by rfl,rfl⟩) hHeld ?rb59
  (try simp only [Act.put,sx])
  refine tk (i:=60) (oi:=⟨some 84,_,_,_,_,_⟩) (v:=undef) rfl (by kernel_rfl) (fun _ _ _ h=>h) (Or.inr ⟨by rfl,rfl⟩) hHeld ?rb60
  (try simp only [Act.put,sx])
  refine tk (i:=61) (oi:=⟨some 85,_,_,_,_,_⟩) (v:=undef) rfl (by kernel_rfl) (fun _ _ _ h=>h) (Or.inr ⟨by rfl,rfl⟩) hHeld ?rb61
  (try simp only [Act.put,sx])
  refine tk (i:=62) (oi:=⟨some 86,_,_,_,_,_⟩) (v:=undef) rfl (by kernel_rfl) (fun _ _ _ h=>h) (Or.inr ⟨by rfl,rfl⟩) hHeld ?rb62
  (try simp only [Act.put,sx])
  refine tk (i:=63) (oi:=⟨some 87,_,_,_,_,_⟩) (v:=undef) rfl (by kernel_rfl) (fun _ _ _ h=>h) (Or.inr ⟨by rfl,rfl⟩) hHeld ?rb63
  (try simp only [Act.put,sx])
  refine tk (i:=64) (oi:=⟨some 88,_,_,_,_,_⟩) (v:=undef) rfl (by kernel_rfl) (fun _ _ _ h=>h) (Or.inr ⟨by rfl,rfl⟩) hHeld ?rb64
  (try simp only [Act.put,sx])
  refine tk (i:=65) (oi:=⟨some 89,_,_,_,_,_⟩) (v:=undef) rfl (by kernel_rfl) (fun _ _ _ h=>h) (Or.inr ⟨by rfl,rfl⟩) hHeld ?rb65
  (try simp only [Act.put,sx])
  refine tk (i:=66) (oi:=⟨some 90,_,_,_,_,_⟩) (v:=undef) rfl (by kernel_rfl) (fun _ _ _ h=>h) (Or.inr ⟨by rfl,rfl⟩) hHeld ?rb66
  (try simp only [Act.put,sx])
  refine tk (i:=67) (oi:=⟨some 91,_,_,_,_,_⟩) (v:=undef) rfl (by kernel_rfl) (fun _ _ _ h=>h) (Or.inr ⟨by rfl,rfl⟩) hHeld ?rb67
  (try simp only [Act.put,sx])
  refine tqr 68 92 hHeld ?_
  (try simp only [Act.put,sx])
  refine wpAnyH_done (by kernel_rfl) ?_ _;go_wp2_with fail;go_meet;exact ⟨by rw [HE.out],zvs FF⟩
 case rest =>
  obtain ⟨rfl,HBc⟩:=hcut;have HB0':Hid (Below w.heap.size w wc):=thenB HB0.out HBc.out;have HBx':Hid (Blk wc w.heap.size [.int .i64 op,.string mod,.string name,.slice aa l.length cap,.slice ab bd.length cab,.slice ac ot.length cac]):=HBx.out.later HBc.out;clear HB0 HBx HBc HC;have HB0:=HB0';have HBx:=HBx';clear HB0' HBx';obtain ⟨x0,x1,x2,x3,x4,x5,xz⟩:=HBx.out.c6;clear x0 x1 x2 x4 x5
  cases hCb:C with
  | true=>
    subst hCb;go_wp2_with fail;go_ret;exact ⟨zab (HR.out rfl),HB0.out⟩
  | false =>
    subst hCb;go_wp2_with fail
    go_loopw [7] (fun i wr=>∃ j:Nat,j<=l.length/\i = .int .i64 j/\(l.take j).any (eL 3 6)=false/\Below w.heap.size w wr/\Blk wr w.heap.size [.int .i64 op,.string mod,.string name,.slice aa l.length cap,.slice ab bd.length cab,.slice ac ot.length cac]) (fun i _=>l.length - (intOf i).toNat)
    case atStart=>exact ⟨0,vad _,rfl,rfl,HB0.out,HBx.out⟩
    case round =>
     obtain ⟨j,hj,rfl,hall,hb,hB⟩:=hrel;clear HBx HB0;clear x3 xz;obtain ⟨q0,q1,q2,q3,q4,q5,qz⟩:=hB.c6;clear q1 q2;have HB:Hid (Blk wr w.heap.size [.int .i64 op,.string mod,.string name,.slice aa l.length cap,.slice ab bd.length cab,.slice ac ot.length cac]):=hB;have HA:Hid ((l.take j).any (eL 3 6)=false):=hall;clear hall hB
     by_cases hlt:j<l.length
     . obtain ⟨b,off,a2,cp,rfl,hx⟩:=(HD.out.later hb).ex j hlt
       have hc0:=hx.c0;have hc1:=hx.c1;have hc2:=hx.c2;have hc3:=hx.c3;have hc4:=hx.c4;have hlb:=hx.lt;have HX:Hid (ExAt wr A b (off+j*5) l[j] a2 cp):=hx;clear hx;go_wp2_with fail;refine (zb1 A 6 (by omega) 3 (by omega) l[j] a2 cp 1 _ (by omega) HX.out.args HX.out.wm HX.out.wna).mono ?_
       cases hr:eL 3 6 l[j] with
       | true=>
         have HF:Hid (l.any (eL 3 6)=true):=zbj l _ j hlt hr;rintro e w3 ⟨rfl,hb3⟩;go_wp2_with fail;go_ret;exact ⟨zab (HR.out (by rw [HF.out];simp)),thenB hb hb3⟩
       | false=>
         have HT:Hid ((l.take (j+1)).any (eL 3 6)=false):=by
          show _=_
          rw [zat l _ j hlt,HA.out,hr];rfl
         rintro e w3 ⟨rfl,hb3⟩;go_wp2_with fail;go_roundw
         case rel=>exact ⟨j+1,by omega,by go_num,HT.out,thenB hb hb3,HB.out.later hb3⟩
         case measure=>simp [intOf];omega
     . have HT : Hid (l.any (eL 3 6)=false):=zbh HA.out hlt
       have HS:Hid (∀ {b:Bool},(((op == 4||op == 5)||decide (0<bd.length))&&bL 3 k bd||(decide (0<ot.length)&&bL 3 k ot))=b->b=sL 3 k (St.mk op mod name l bd ot)):=fun h=>HR.out (by rw [HT.out,vaz,vaz];exact h)
       clear HR HT HA HD;have HDb':Hid (DAt wr A ab bd.length (za2 bd)):=HDb.out.later hb;have HDo':Hid (DAt wr A ac ot.length (za2 ot)):=HDo.out.later hb;clear HDb HDo
       cases h4:(op == 4) with
       | true=>
         go_wp2_with fail;refine (HI.out bd ab cab _ HDb'.out).mono ?_
         cases hr1:bL 3 k bd with
         | true=>
           rintro e w4 ⟨rfl,c1⟩;go_wp2_with fail;go_ret;exact ⟨zab (HS.out (by simp [hr1,h4])),thenB hb c1⟩
         | false=>
           rintro e w4 ⟨rfl,c1⟩;clear q0 q3 q4 q5 qz;obtain ⟨q0,q1,q2,q3,q4,q5,qz⟩:=(HB.out.later c1).c6;clear q0 q1 q2 q3 q4
           by_cases ho:0<ot.length
           . go_wp2_with fail
             refine (HI.out ot ac cac _ (HDo'.out.later c1)).mono ?_
             cases hr2:bL 3 k ot with
             | true=>
               rintro e w5 ⟨rfl,c2⟩;go_wp2_with fail;go_ret;exact ⟨zab (HS.out (by simp [hr2,ho])),thenB (thenB hb c1) c2⟩
             | false=>
               rintro e w5 ⟨rfl,c2⟩;go_wp2_with fail;go_ret;exact ⟨zab (HS.out (by simp [hr2,hr1])),thenB (thenB hb c1) c2⟩
           . go_wp2_with fail
             go_ret;exact ⟨zab (HS.out (by simp [ho,hr1])),(thenB hb c1)⟩
       | false =>
         cases h5:(op == 5) with
         | true=>
           go_wp2_with fail;refine (HI.out bd ab cab _ HDb'.out).mono ?_
           cases hr1:bL 3 k bd with
           | true=>
             rintro e w4 ⟨rfl,c1⟩;go_wp2_with fail;go_ret;exact ⟨zab (HS.out (by simp [hr1,h4,h5])),thenB hb c1⟩
           | false=>
             rintro e w4 ⟨rfl,c1⟩;clear q0 q3 q4 q5 qz;obtain ⟨q0,q1,q2,q3,q4,q5,qz⟩:=(HB.out.later c1).c6;clear q0 q1 q2 q3 q4
             by_cases ho:0<ot.length
             . go_wp2_with fail
               refine (HI.out ot ac cac _ (HDo'.out.later c1)).mono ?_
               cases hr2:bL 3 k ot with
               | true=>
                 rintro e w5 ⟨rfl,c2⟩;go_wp2_with fail;go_ret;exact ⟨zab (HS.out (by simp [hr2,ho])),thenB (thenB hb c1) c2⟩
               | false=>
                 rintro e w5 ⟨rfl,c2⟩;go_wp2_with fail;go_ret;exact ⟨zab (HS.out (by simp [hr2,hr1])),thenB (thenB hb c1) c2⟩
             . go_wp2_with fail
               go_ret;exact ⟨zab (HS.out (by simp [ho,hr1])),(thenB hb c1)⟩
         | false =>
           by_cases hb0:0<bd.length
           . skip
             go_wp2_with fail;refine (HI.out bd ab cab _ HDb'.out).mono ?_
             cases hr1:bL 3 k bd with
             | true=>
               rintro e w4 ⟨rfl,c1⟩;go_wp2_with fail;go_ret;exact ⟨zab (HS.out (by simp [hr1,h4,h5,hb0])),thenB hb c1⟩
             | false=>
               rintro e w4 ⟨rfl,c1⟩;clear q0 q3 q4 q5 qz;obtain ⟨q0,q1,q2,q3,q4,q5,qz⟩:=(HB.out.later c1).c6;clear q0 q1 q2 q3 q4
               by_cases ho:0<ot.length
               . go_wp2_with fail
                 refine (HI.out ot ac cac _ (HDo'.out.later c1)).mono ?_
                 cases hr2:bL 3 k ot with
                 | true=>
                   rintro e w5 ⟨rfl,c2⟩;go_wp2_with fail;go_ret;exact ⟨zab (HS.out (by simp [hr2,ho])),thenB (thenB hb c1) c2⟩
                 | false=>
                   rintro e w5 ⟨rfl,c2⟩;go_wp2_with fail;go_ret;exact ⟨zab (HS.out (by simp [hr2,hr1])),thenB (thenB hb c1) c2⟩
               . go_wp2_with fail
                 go_ret;exact ⟨zab (HS.out (by simp [ho,hr1])),(thenB hb c1)⟩
           . skip
             by_cases ho:0<ot.length
             . go_wp2_with fail
               refine (HI.out ot ac cac _ HDo'.out).mono ?_
               cases hr2:bL 3 k ot with
               | true=>
                 rintro e w5 ⟨rfl,c2⟩;go_wp2_with fail;go_ret;exact ⟨zab (HS.out (by simp [hr2,ho])),thenB hb c2⟩
               | false=>
                 rintro e w5 ⟨rfl,c2⟩;go_wp2_with fail;go_ret;exact ⟨zab (HS.out (by simp [hr2,h4,h5,hb0])),thenB hb c2⟩
             . go_wp2_with fail
               go_ret;exact ⟨zab (HS.out (by simp [ho,h4,h5,hb0])),hb⟩
end Go.Proofs.YtndkhgakfodldaaGreatDoor
