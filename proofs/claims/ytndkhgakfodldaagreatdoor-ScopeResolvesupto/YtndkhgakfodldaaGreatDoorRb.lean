import Derived.Test.YtndkhgakfodldaaGreatDoorRa
import Derived.Deep.RegionHeld3
import Derived.BigQuiet
import Derived.Deep.DeepCutAuto
namespace Go.Proofs.YtndkhgakfodldaaGreatDoor
open Go.RowKit Go.Maps
def c3 (x:Ex):Bool:=(inB x.op 3 5 && !zc7 x.mod x.name)||(!inB x.op 3 5&&(!x.mod.toList.isEmpty || !x.name.toList.isEmpty))||(x.op == 1 && !inB x.n 0 1099511627775)||(x.op != 1&&x.n != 0)||(decide (0<=exN x.op)&&((x.args.length:Int) != exN x.op))
def zh7 (lv:Int) (x:Ex):Bool:=if lv=1 then !inB x.op 1 15 else if lv=2 then decide (3<x.args.length) else c3 x
def eL (lv:Int):Nat->Ex->Bool
 | 0,_=>lv == 2
 | k+1,x=>zh7 lv x||x.args.any (eL lv k)
theorem za5 {op:Int} {b:Bool} (h:inB op 3 5=b) (w:World):Calls Tryz.prog 259 #[.int .i64 op] w fun e w'=>e = .returned (.bool b)/\w'=w:=by
 subst h;exact zp2 op w
theorem zba {op q:Int} (h:exN op=q) (w:World):Calls Tryz.prog 281 #[.int .i64 op] w fun e w'=>e = .returned (.int .i64 q)/\w'=w:=by
 subst h;exact zod op w
theorem zbb {n lo hi:Int} {b:Bool} (h:inB n lo hi=b) (w:World):Calls Tryz.prog 63 #[.int .i64 n,.int .i64 lo,.int .i64 hi] w fun e w'=>e = .returned (.bool b)/\w'=w:=by
 subst h;exact zaw n lo hi w
theorem zby {mod name:ByteArray} {b:Bool} (h:zc7 mod name=b) (w:World) (h1:mod.size<=maxLen) (h2:name.size<=maxLen) :
 Calls Tryz.prog 245 #[.string mod,.string name] w fun e w'=>e = .returned (.bool b)/\Below w.heap.size w w':=by
 subst h;exact zp1 mod name w h1 h2
theorem za3 (w:World) (n:Nat):Below w.heap.size w (w.drewN n):=by
 induction n with
 | zero=>exact Below.refl _ _
 | succ n ih=>exact ih.drew
theorem zvs {w0 w':World} {P:Prop} (h:Hid (Below w0.heap.size w0 w'/\P)):Hid (Below w0.heap.size w0 w'):=h.out.1
theorem bx5 {W0 W W':World} {b:Nat} {u0 u1 u2 u3 u4:Value} (hB:Hid (Blk W0 b [u0,u1,u2,u3,u4])) (h0:Hid (Below W0.heap.size W0 W)) (hb:Below W.heap.size W W') :
 Hid (Below W0.heap.size W0 W'/\W'.cell? ⟨b,0,none⟩=some u0/\W'.cell? ⟨b,1,none⟩=some u1/\W'.cell? ⟨b,2,none⟩=some u2/\W'.cell? ⟨b,3,none⟩=some u3/\W'.cell? ⟨b,4,none⟩=some u4):=by
 have h:=thenB h0.out hb;have c:=(hB.out.later h).c5;exact ⟨h,c.1,c.2.1,c.2.2.1,c.2.2.2.1,c.2.2.2.2.1⟩
theorem zy5 {op n:Int} {mod name:ByteArray} {l:List Ex} {b:Bool} (h:inB op 1 15=b):zh7 1 (.mk op n mod name l) = !b:=by subst h;rfl
set_option maxRecDepth 100000
set_option maxHeartbeats 8000000
theorem zvt (A:Nat->Prop) (k:Nat) (op n:Int) (mod name:ByteArray) (l:List Ex) (aa:OA) (cap:Nat) (deep:Int) (w:World) (hbd:l.length<=17592186044416) (hd1:1<=deep) (hd6:deep<=6)
 (HI:Hid (∀ (x:Ex) (aa:OA) (cap:Nat) (w:World),DAt w A aa x.args.length (za9 x.args)->x.mod.size<=maxLen->x.name.size<=maxLen->
   Calls Tryz.prog 247 #[.agg #[.int .i64 x.op,.int .i64 x.n,.string x.mod,.string x.name,.slice aa x.args.length cap],.int .i64 1,.int .i64 (deep+1)] w fun e w'=>e = .returned (.bool (eL 1 k x))/\Below w.heap.size w w'))
 (HD:Hid (DAt w A aa l.length (za9 l))) (_HWm:Hid (mod.size<=maxLen)) (_HWn:Hid (name.size<=maxLen)) :
 Calls Tryz.prog 247 #[.agg #[.int .i64 op,.int .i64 n,.string mod,.string name,.slice aa l.length cap],.int .i64 1,.int .i64 deep] w fun e w'=>e = .returned (.bool (eL 1 (k+1) (.mk op n mod name l)))/\Below w.heap.size w w':=by
 have HR:Hid (∀ {b:Bool},(zh7 1 (.mk op n mod name l)||l.any (eL 1 k))=b->b=eL 1 (k+1) (.mk op n mod name l)):=fun h=>by rw [← h];simp [eL,Ex.args]
 have HBx:Hid (Blk (w.alloc (.cells #[.int .i64 op,.int .i64 n,.string mod,.string name,.slice aa l.length cap] 174)) w.heap.size [.int .i64 op,.int .i64 n,.string mod,.string name,.slice aa l.length cap]):=Blk.new w _ _;have HB0:Hid (Below w.heap.size w (w.alloc (.cells #[.int .i64 op,.int .i64 n,.string mod,.string name,.slice aa l.length cap] 174))):=al1 _ _
 cases hK:inB op 1 15 with
 | false=>
   have HQ:Hid (zh7 1 (.mk op n mod name l)=true):=zy5 hK;go_enter Tryz.func247,Tryz.ntmps247
   go_wp2_with (go_at_call 63;refine (zbb hK _).mono ?_;rintro e w' ⟨rfl,rfl⟩)
   go_ret;exact ⟨zab (HR.out (by rw [HQ.out];rfl)),HB0.out⟩
 | true =>
   have HQ:Hid (zh7 1 (.mk op n mod name l)=false):=zy5 hK;go_enter Tryz.func247,Tryz.ntmps247
   go_wp2_with (go_at_call 63;refine (zbb hK _).mono ?_;rintro e w' ⟨rfl,rfl⟩)
   go_wp2_with fail
   go_loopw [7] (fun i wr=>∃ j:Nat,j<=l.length/\i = .int .i64 j/\(l.take j).any (eL 1 k)=false/\Below w.heap.size w wr/\Blk wr w.heap.size [.int .i64 op,.int .i64 n,.string mod,.string name,.slice aa l.length cap]) (fun i _=>l.length - (intOf i).toNat)
   case atStart=>exact ⟨0,vad _,rfl,rfl,HB0.out,HBx.out⟩
   case round=>
    obtain ⟨j,hj,rfl,hall,hb,hB⟩:=hrel;clear HBx HB0;have q4:=hB.cell 4 _ rfl;have qz:=hB.lt;have HB:Hid (Blk wr w.heap.size [.int .i64 op,.int .i64 n,.string mod,.string name,.slice aa l.length cap]):=hB;have HA:Hid ((l.take j).any (eL 1 k)=false):=hall;clear hall hB
    by_cases hlt:j<l.length
    . obtain ⟨b,off,a2,cp,rfl,hx⟩:=(HD.out.later hb).ex j hlt
      have hc0:=hx.c0;have hc1:=hx.c1;have hc2:=hx.c2;have hc3:=hx.c3;have hc4:=hx.c4;have hlb:=hx.lt;have HX:Hid (ExAt wr A b (off+j*5) l[j] a2 cp):=hx;clear hx;go_wp2_with fail;refine (HI.out l[j] a2 cp _ HX.out.args HX.out.wm HX.out.wna).mono ?_
      cases hr:eL 1 k l[j] with
      | true=>
        have HF:Hid (l.any (eL 1 k)=true):=zbj l _ j hlt hr;rintro e w3 ⟨rfl,hb3⟩;go_wp2_with fail;go_ret;exact ⟨zab (HR.out (by rw [HF.out,vby])),thenB hb hb3⟩
      | false=>
        have HT:Hid ((l.take (j+1)).any (eL 1 k)=false):=by
         show _=_
         rw [zat l _ j hlt,HA.out,hr];rfl
        rintro e w3 ⟨rfl,hb3⟩;go_wp2_with fail;go_roundw
        case rel=>exact ⟨j+1,by omega,by go_num,HT.out,thenB hb hb3,HB.out.later hb3⟩
        case measure=>simp [intOf];omega
    . have HT:Hid (l.any (eL 1 k)=false):=zbh HA.out hlt
      go_wp2_with fail;go_ret;exact ⟨zab (HR.out (by rw [HT.out];rw [HQ.out];rfl)),hb⟩
theorem zvu (A:Nat->Prop) (k:Nat) (op n:Int) (mod name:ByteArray) (l:List Ex) (aa:OA) (cap:Nat) (deep:Int) (w:World) (hbd:l.length<=17592186044416) (hd1:1<=deep) (hd6:deep<=6)
 (HI:Hid (∀ (x:Ex) (aa:OA) (cap:Nat) (w:World),DAt w A aa x.args.length (za9 x.args)->x.mod.size<=maxLen->x.name.size<=maxLen->
   Calls Tryz.prog 247 #[.agg #[.int .i64 x.op,.int .i64 x.n,.string x.mod,.string x.name,.slice aa x.args.length cap],.int .i64 2,.int .i64 (deep+1)] w fun e w'=>e = .returned (.bool (eL 2 k x))/\Below w.heap.size w w'))
 (HD:Hid (DAt w A aa l.length (za9 l))) (_HWm:Hid (mod.size<=maxLen)) (_HWn:Hid (name.size<=maxLen)) :
 Calls Tryz.prog 247 #[.agg #[.int .i64 op,.int .i64 n,.string mod,.string name,.slice aa l.length cap],.int .i64 2,.int .i64 deep] w fun e w'=>e = .returned (.bool (eL 2 (k+1) (.mk op n mod name l)))/\Below w.heap.size w w':=by
 have HR:Hid (∀ {b:Bool},(zh7 2 (.mk op n mod name l)||l.any (eL 2 k))=b->b=eL 2 (k+1) (.mk op n mod name l)):=fun h=>by rw [← h];simp [eL,Ex.args]
 have HBx:Hid (Blk (w.alloc (.cells #[.int .i64 op,.int .i64 n,.string mod,.string name,.slice aa l.length cap] 174)) w.heap.size [.int .i64 op,.int .i64 n,.string mod,.string name,.slice aa l.length cap]):=Blk.new w _ _;have HB0:Hid (Below w.heap.size w (w.alloc (.cells #[.int .i64 op,.int .i64 n,.string mod,.string name,.slice aa l.length cap] 174))):=al1 _ _
 by_cases h3:3<l.length
 . have HQ:Hid (zh7 2 (.mk op n mod name l)=true):=decide_eq_true h3
   go_enter Tryz.func247,Tryz.ntmps247;go_wp2_with fail;go_ret;exact ⟨zab (HR.out (by rw [HQ.out];rfl)),HB0.out⟩
 . have HQ:Hid (zh7 2 (.mk op n mod name l)=false):=decide_eq_false h3
   go_enter Tryz.func247,Tryz.ntmps247;go_wp2_with fail
   go_loopw [7] (fun i wr=>∃ j:Nat,j<=l.length/\i = .int .i64 j/\(l.take j).any (eL 2 k)=false/\Below w.heap.size w wr/\Blk wr w.heap.size [.int .i64 op,.int .i64 n,.string mod,.string name,.slice aa l.length cap]) (fun i _=>l.length - (intOf i).toNat)
   case atStart=>exact ⟨0,vad _,rfl,rfl,HB0.out,HBx.out⟩
   case round=>
    obtain ⟨j,hj,rfl,hall,hb,hB⟩:=hrel;clear HBx HB0;have q4:=hB.cell 4 _ rfl;have qz:=hB.lt;have HB:Hid (Blk wr w.heap.size [.int .i64 op,.int .i64 n,.string mod,.string name,.slice aa l.length cap]):=hB;have HA:Hid ((l.take j).any (eL 2 k)=false):=hall;clear hall hB
    by_cases hlt:j<l.length
    . obtain ⟨b,off,a2,cp,rfl,hx⟩:=(HD.out.later hb).ex j hlt
      have hc0:=hx.c0;have hc1:=hx.c1;have hc2:=hx.c2;have hc3:=hx.c3;have hc4:=hx.c4;have hlb:=hx.lt;have HX:Hid (ExAt wr A b (off+j*5) l[j] a2 cp):=hx;clear hx;go_wp2_with fail;refine (HI.out l[j] a2 cp _ HX.out.args HX.out.wm HX.out.wna).mono ?_
      cases hr:eL 2 k l[j] with
      | true=>
        have HF:Hid (l.any (eL 2 k)=true):=zbj l _ j hlt hr;rintro e w3 ⟨rfl,hb3⟩;go_wp2_with fail;go_ret;exact ⟨zab (HR.out (by rw [HF.out,vby])),thenB hb hb3⟩
      | false=>
        have HT:Hid ((l.take (j+1)).any (eL 2 k)=false):=by
         show _=_
         rw [zat l _ j hlt,HA.out,hr];rfl
        rintro e w3 ⟨rfl,hb3⟩;go_wp2_with fail;go_roundw
        case rel=>exact ⟨j+1,by omega,by go_num,HT.out,thenB hb hb3,HB.out.later hb3⟩
        case measure=>simp [intOf];omega
    . have HT:Hid (l.any (eL 2 k)=false):=zbh HA.out hlt
      go_wp2_with fail;go_ret;exact ⟨zab (HR.out (by rw [HT.out];rw [HQ.out];rfl)),hb⟩
theorem zlv (A:Nat->Prop) (k:Nat) (op n:Int) (mod name:ByteArray) (l:List Ex) (aa:OA) (cap:Nat) (deep:Int) (w:World) (hbd:l.length<=17592186044416) (hd1:1<=deep) (hd6:deep<=6)
 (HI:Hid (∀ (x:Ex) (aa:OA) (cap:Nat) (w:World),DAt w A aa x.args.length (za9 x.args)->x.mod.size<=maxLen->x.name.size<=maxLen->
   Calls Tryz.prog 247 #[.agg #[.int .i64 x.op,.int .i64 x.n,.string x.mod,.string x.name,.slice aa x.args.length cap],.int .i64 3,.int .i64 (deep+1)] w fun e w'=>e = .returned (.bool (eL 3 k x))/\Below w.heap.size w w'))
 (HD:Hid (DAt w A aa l.length (za9 l))) (_HWm:Hid (mod.size<=maxLen)) (_HWn:Hid (name.size<=maxLen))
 (hR:inB op 3 5=false) (hmn:mod.toList.isEmpty=false\/(mod.toList.isEmpty=true/\name.toList.isEmpty=false)) :
 Calls Tryz.prog 247 #[.agg #[.int .i64 op,.int .i64 n,.string mod,.string name,.slice aa l.length cap],.int .i64 3,.int .i64 deep] w fun e w'=>e = .returned (.bool (eL 3 (k+1) (.mk op n mod name l)))/\Below w.heap.size w w':=by
 have HR:Hid (∀ {b:Bool},(zh7 3 (.mk op n mod name l)||l.any (eL 3 k))=b->b=eL 3 (k+1) (.mk op n mod name l)):=fun h=>by rw [← h];simp [eL,Ex.args]
 have HBx:Hid (Blk (w.alloc (.cells #[.int .i64 op,.int .i64 n,.string mod,.string name,.slice aa l.length cap] 174)) w.heap.size [.int .i64 op,.int .i64 n,.string mod,.string name,.slice aa l.length cap]):=Blk.new w _ _;have HB0:Hid (Below w.heap.size w (w.alloc (.cells #[.int .i64 op,.int .i64 n,.string mod,.string name,.slice aa l.length cap] 174))):=al1 _ _;have HC:Hid (zh7 3 (.mk op n mod name l)=((inB op 3 5 && !zc7 mod name)||(!inB op 3 5&&(!mod.toList.isEmpty || !name.toList.isEmpty))||(op == 1 && !inB n 0 1099511627775)||(op != 1&&n != 0)||(decide (0<=exN op)&&((l.length:Int) != exN op)))):=rfl;generalize hCC:zh7 3 (.mk op n mod name l)=C at HC HR;clear hCC;go_enter Tryz.func247,Tryz.ntmps247;go_upto_region 11 with fail;generalize hW0:w.alloc (.cells #[.int .i64 op,.int .i64 n,.string mod,.string name,.slice aa l.length cap] 174)=W0 at *
 clear hW0
 go_cut [89] (fun v wc=>v = .bool C/\Hid (Below W0.heap.size W0 wc))
 case first=>
  clear HD HI HR HB0;obtain ⟨x0,x1,x2,x3,x4,xz⟩:=HBx.out.c5;have HBz:Hid (Below W0.heap.size W0 W0.drew):=(Below.refl _ _).drew;generalize hq:exN op=q at *
  rcases hmn with hm | ⟨hm,hn⟩
  . skip
    have HE:Hid (C=true):=by show _=_;rw [HC.out];simp [hR,hm]
    go_quiet ((first | (go_at_call 259;exact Calls.quiet_of_same (za5 hR _)) | (go_at_call 281;exact Calls.quiet_of_same (zba hq _)) | (go_at_call 63;exact Calls.quiet_of_same (zbb rfl _))))
    go_wp2_with fail;go_meet;exact ⟨by rw [HE.out],za3 _ _⟩
  . skip
    have HE:Hid (C=true):=by show _=_;rw [HC.out];simp [hR,hm,hn]
    go_quiet ((first | (go_at_call 259;exact Calls.quiet_of_same (za5 hR _)) | (go_at_call 281;exact Calls.quiet_of_same (zba hq _)) | (go_at_call 63;exact Calls.quiet_of_same (zbb rfl _))))
    go_wp2_with fail;go_meet;exact ⟨by rw [HE.out],za3 _ _⟩
 case rest=>
  obtain ⟨rfl,HBc⟩:=hcut;have HB0':Hid (Below w.heap.size w wc):=thenB HB0.out HBc.out;have HBx':Hid (Blk wc w.heap.size [.int .i64 op,.int .i64 n,.string mod,.string name,.slice aa l.length cap]):=HBx.out.later HBc.out;clear HB0 HBx HBc HC;have HB0:=HB0';have HBx:=HBx';clear HB0' HBx';have x4:=HBx.out.cell 4 _ rfl;have xz:=HBx.out.lt
  cases hCb:C with
  | true=>
    subst hCb;go_wp2_with fail;go_ret;exact ⟨zab (HR.out rfl),HB0.out⟩
  | false =>
    subst hCb;go_wp2_with fail
    go_loopw [7] (fun i wr=>∃ j:Nat,j<=l.length/\i = .int .i64 j/\(l.take j).any (eL 3 k)=false/\Below w.heap.size w wr/\Blk wr w.heap.size [.int .i64 op,.int .i64 n,.string mod,.string name,.slice aa l.length cap]) (fun i _=>l.length - (intOf i).toNat)
    case atStart=>exact ⟨0,vad _,rfl,rfl,HB0.out,HBx.out⟩
    case round=>
     obtain ⟨j,hj,rfl,hall,hb,hB⟩:=hrel;clear HBx HB0;clear x4 xz;have q4:=hB.cell 4 _ rfl;have qz:=hB.lt;have HB:Hid (Blk wr w.heap.size [.int .i64 op,.int .i64 n,.string mod,.string name,.slice aa l.length cap]):=hB;have HA:Hid ((l.take j).any (eL 3 k)=false):=hall;clear hall hB
     by_cases hlt:j<l.length
     . obtain ⟨b,off,a2,cp,rfl,hx⟩:=(HD.out.later hb).ex j hlt
       have hc0:=hx.c0;have hc1:=hx.c1;have hc2:=hx.c2;have hc3:=hx.c3;have hc4:=hx.c4;have hlb:=hx.lt;have HX:Hid (ExAt wr A b (off+j*5) l[j] a2 cp):=hx;clear hx;go_wp2_with fail;refine (HI.out l[j] a2 cp _ HX.out.args HX.out.wm HX.out.wna).mono ?_
       cases hr:eL 3 k l[j] with
       | true=>
         have HF:Hid (l.any (eL 3 k)=true):=zbj l _ j hlt hr;rintro e w3 ⟨rfl,hb3⟩;go_wp2_with fail;go_ret;exact ⟨zab (HR.out (by rw [HF.out,vby])),thenB hb hb3⟩
       | false=>
         have HT:Hid ((l.take (j+1)).any (eL 3 k)=false):=by
          show _=_
          rw [zat l _ j hlt,HA.out,hr];rfl
         rintro e w3 ⟨rfl,hb3⟩;go_wp2_with fail;go_roundw
         case rel=>exact ⟨j+1,by omega,by go_num,HT.out,thenB hb hb3,HB.out.later hb3⟩
         case measure=>simp [intOf];omega
     . have HT:Hid (l.any (eL 3 k)=false):=zbh HA.out hlt
       go_wp2_with fail;go_ret;exact ⟨zab (HR.out (by rw [HT.out];rfl)),hb⟩
theorem zst (A:Nat->Prop) (k:Nat) (op n:Int) (mod name:ByteArray) (l:List Ex) (aa:OA) (cap:Nat) (deep:Int) (w:World) (hbd:l.length<=17592186044416) (hd1:1<=deep) (hd6:deep<=6)
 (HI:Hid (∀ (x:Ex) (aa:OA) (cap:Nat) (w:World),DAt w A aa x.args.length (za9 x.args)->x.mod.size<=maxLen->x.name.size<=maxLen->
   Calls Tryz.prog 247 #[.agg #[.int .i64 x.op,.int .i64 x.n,.string x.mod,.string x.name,.slice aa x.args.length cap],.int .i64 3,.int .i64 (deep+1)] w fun e w'=>e = .returned (.bool (eL 3 k x))/\Below w.heap.size w w'))
 (HD:Hid (DAt w A aa l.length (za9 l))) (_HWm:Hid (mod.size<=maxLen)) (_HWn:Hid (name.size<=maxLen))
 (hR:inB op 3 5=false) (hm:mod.toList.isEmpty=true) (hn:name.toList.isEmpty=true) (ho:Hid (op=1)) :
 Calls Tryz.prog 247 #[.agg #[.int .i64 op,.int .i64 n,.string mod,.string name,.slice aa l.length cap],.int .i64 3,.int .i64 deep] w fun e w'=>e = .returned (.bool (eL 3 (k+1) (.mk op n mod name l)))/\Below w.heap.size w w':=by
 have HR:Hid (∀ {b:Bool},(zh7 3 (.mk op n mod name l)||l.any (eL 3 k))=b->b=eL 3 (k+1) (.mk op n mod name l)):=fun h=>by rw [← h];simp [eL,Ex.args]
 have HBx:Hid (Blk (w.alloc (.cells #[.int .i64 op,.int .i64 n,.string mod,.string name,.slice aa l.length cap] 174)) w.heap.size [.int .i64 op,.int .i64 n,.string mod,.string name,.slice aa l.length cap]):=Blk.new w _ _;have HB0:Hid (Below w.heap.size w (w.alloc (.cells #[.int .i64 op,.int .i64 n,.string mod,.string name,.slice aa l.length cap] 174))):=al1 _ _;have HC:Hid (zh7 3 (.mk op n mod name l)=((inB op 3 5 && !zc7 mod name)||(!inB op 3 5&&(!mod.toList.isEmpty || !name.toList.isEmpty))||(op == 1 && !inB n 0 1099511627775)||(op != 1&&n != 0)||(decide (0<=exN op)&&((l.length:Int) != exN op)))):=rfl;generalize hCC:zh7 3 (.mk op n mod name l)=C at HC HR;clear hCC;go_enter Tryz.func247,Tryz.ntmps247;go_upto_region 11 with fail;generalize hW0:w.alloc (.cells #[.int .i64 op,.int .i64 n,.string mod,.string name,.slice aa l.length cap] 174)=W0 at *
 clear hW0
 go_cut [89] (fun v wc=>v = .bool C/\Hid (Below W0.heap.size W0 wc))
 case first=>
  clear HD HI HR HB0;obtain ⟨x0,x1,x2,x3,x4,xz⟩:=HBx.out.c5;have HBz:Hid (Below W0.heap.size W0 W0.drew):=(Below.refl _ _).drew;generalize hq:exN op=q at *;have ho:=ho.out;have ho1:(op == 1)=true:=beq_iff_eq.2 ho
  have ho2:(op != 1)=false:=by simp [ho]
  have hq0:q=0:=by rw [← hq,ho];rfl
  clear ho;subst hq0
  cases hN:inB n 0 1099511627775 with
  | false=>
    have HE:Hid (C=true):=by show _=_;rw [HC.out];simp [hR,hm,hn,ho1,hN]
    go_quiet ((first | (go_at_call 259;exact Calls.quiet_of_same (za5 hR _)) | (go_at_call 281;exact Calls.quiet_of_same (zba hq _)) | (go_at_call 63;exact Calls.quiet_of_same (zbb hN _))))
    go_wp2_with fail;go_meet;exact ⟨by rw [HE.out],za3 _ _⟩
  | true=>
    cases hl:((l.length:Int) != 0) with
    | false=>
      have HE:Hid (C=false):=by show _=_;rw [HC.out];simp [hR,hm,hn,ho1,ho2,hN,hl]
      go_quiet ((first | (go_at_call 259;exact Calls.quiet_of_same (za5 hR _)) | (go_at_call 281;exact Calls.quiet_of_same (zba hq _)) | (go_at_call 63;exact Calls.quiet_of_same (zbb hN _))))
      go_wp2_with fail;go_meet;exact ⟨by rw [HE.out],za3 _ _⟩
    | true=>
      have HE:Hid (C=true):=by show _=_;rw [HC.out];simp [hR,hm,hn,ho1,ho2,hN,hl]
      go_quiet ((first | (go_at_call 259;exact Calls.quiet_of_same (za5 hR _)) | (go_at_call 281;exact Calls.quiet_of_same (zba hq _)) | (go_at_call 63;exact Calls.quiet_of_same (zbb hN _))))
      go_wp2_with fail;go_meet;exact ⟨by rw [HE.out],za3 _ _⟩
 case rest=>
  obtain ⟨rfl,HBc⟩:=hcut;have HB0':Hid (Below w.heap.size w wc):=thenB HB0.out HBc.out;have HBx':Hid (Blk wc w.heap.size [.int .i64 op,.int .i64 n,.string mod,.string name,.slice aa l.length cap]):=HBx.out.later HBc.out;clear HB0 HBx HBc HC;have HB0:=HB0';have HBx:=HBx';clear HB0' HBx';have x4:=HBx.out.cell 4 _ rfl;have xz:=HBx.out.lt
  cases hCb:C with
  | true=>
    subst hCb;go_wp2_with fail;go_ret;exact ⟨zab (HR.out rfl),HB0.out⟩
  | false =>
    subst hCb;go_wp2_with fail
    go_loopw [7] (fun i wr=>∃ j:Nat,j<=l.length/\i = .int .i64 j/\(l.take j).any (eL 3 k)=false/\Below w.heap.size w wr/\Blk wr w.heap.size [.int .i64 op,.int .i64 n,.string mod,.string name,.slice aa l.length cap]) (fun i _=>l.length - (intOf i).toNat)
    case atStart=>exact ⟨0,vad _,rfl,rfl,HB0.out,HBx.out⟩
    case round=>
     obtain ⟨j,hj,rfl,hall,hb,hB⟩:=hrel;clear HBx HB0;clear x4 xz;have q4:=hB.cell 4 _ rfl;have qz:=hB.lt;have HB:Hid (Blk wr w.heap.size [.int .i64 op,.int .i64 n,.string mod,.string name,.slice aa l.length cap]):=hB;have HA:Hid ((l.take j).any (eL 3 k)=false):=hall;clear hall hB
     by_cases hlt:j<l.length
     . obtain ⟨b,off,a2,cp,rfl,hx⟩:=(HD.out.later hb).ex j hlt
       have hc0:=hx.c0;have hc1:=hx.c1;have hc2:=hx.c2;have hc3:=hx.c3;have hc4:=hx.c4;have hlb:=hx.lt;have HX:Hid (ExAt wr A b (off+j*5) l[j] a2 cp):=hx;clear hx;go_wp2_with fail;refine (HI.out l[j] a2 cp _ HX.out.args HX.out.wm HX.out.wna).mono ?_
       cases hr:eL 3 k l[j] with
       | true=>
         have HF:Hid (l.any (eL 3 k)=true):=zbj l _ j hlt hr;rintro e w3 ⟨rfl,hb3⟩;go_wp2_with fail;go_ret;exact ⟨zab (HR.out (by rw [HF.out,vby])),thenB hb hb3⟩
       | false=>
         have HT:Hid ((l.take (j+1)).any (eL 3 k)=false):=by
          show _=_
          rw [zat l _ j hlt,HA.out,hr];rfl
         rintro e w3 ⟨rfl,hb3⟩;go_wp2_with fail;go_roundw
         case rel=>exact ⟨j+1,by omega,by go_num,HT.out,thenB hb hb3,HB.out.later hb3⟩
         case measure=>simp [intOf];omega
     . have HT:Hid (l.any (eL 3 k)=false):=zbh HA.out hlt
       go_wp2_with fail;go_ret;exact ⟨zab (HR.out (by rw [HT.out];rfl)),hb⟩
theorem zsu (A:Nat->Prop) (k:Nat) (op n:Int) (mod name:ByteArray) (l:List Ex) (aa:OA) (cap:Nat) (deep:Int) (w:World) (hbd:l.length<=17592186044416) (hd1:1<=deep) (hd6:deep<=6)
 (HI:Hid (∀ (x:Ex) (aa:OA) (cap:Nat) (w:World),DAt w A aa x.args.length (za9 x.args)->x.mod.size<=maxLen->x.name.size<=maxLen->
   Calls Tryz.prog 247 #[.agg #[.int .i64 x.op,.int .i64 x.n,.string x.mod,.string x.name,.slice aa x.args.length cap],.int .i64 3,.int .i64 (deep+1)] w fun e w'=>e = .returned (.bool (eL 3 k x))/\Below w.heap.size w w'))
 (HD:Hid (DAt w A aa l.length (za9 l))) (_HWm:Hid (mod.size<=maxLen)) (_HWn:Hid (name.size<=maxLen))
 (hR:inB op 3 5=false) (hm:mod.toList.isEmpty=true) (hn:name.toList.isEmpty=true) (ho:Hid (op≠1)) :
 Calls Tryz.prog 247 #[.agg #[.int .i64 op,.int .i64 n,.string mod,.string name,.slice aa l.length cap],.int .i64 3,.int .i64 deep] w fun e w'=>e = .returned (.bool (eL 3 (k+1) (.mk op n mod name l)))/\Below w.heap.size w w':=by
 have HR:Hid (∀ {b:Bool},(zh7 3 (.mk op n mod name l)||l.any (eL 3 k))=b->b=eL 3 (k+1) (.mk op n mod name l)):=fun h=>by rw [← h];simp [eL,Ex.args]
 have HBx:Hid (Blk (w.alloc (.cells #[.int .i64 op,.int .i64 n,.string mod,.string name,.slice aa l.length cap] 174)) w.heap.size [.int .i64 op,.int .i64 n,.string mod,.string name,.slice aa l.length cap]):=Blk.new w _ _;have HB0:Hid (Below w.heap.size w (w.alloc (.cells #[.int .i64 op,.int .i64 n,.string mod,.string name,.slice aa l.length cap] 174))):=al1 _ _;have HC:Hid (zh7 3 (.mk op n mod name l)=((inB op 3 5 && !zc7 mod name)||(!inB op 3 5&&(!mod.toList.isEmpty || !name.toList.isEmpty))||(op == 1 && !inB n 0 1099511627775)||(op != 1&&n != 0)||(decide (0<=exN op)&&((l.length:Int) != exN op)))):=rfl;generalize hCC:zh7 3 (.mk op n mod name l)=C at HC HR;clear hCC;go_enter Tryz.func247,Tryz.ntmps247;go_upto_region 11 with fail;generalize hW0:w.alloc (.cells #[.int .i64 op,.int .i64 n,.string mod,.string name,.slice aa l.length cap] 174)=W0 at *
 clear hW0
 go_cut [89] (fun v wc=>v = .bool C/\Hid (Below W0.heap.size W0 wc))
 case first=>
  clear HD HI HR HB0;obtain ⟨x0,x1,x2,x3,x4,xz⟩:=HBx.out.c5;have HBz:Hid (Below W0.heap.size W0 W0.drew):=(Below.refl _ _).drew;generalize hq:exN op=q at *;have ho:=ho.out;have ho1:(op == 1)=false:=beq_eq_false_iff_ne.2 ho
  have ho2:(op != 1)=true:=by simp [ho]
  clear ho
  cases hN:(n != 0) with
  | true=>
    have HE:Hid (C=true):=by show _=_;rw [HC.out];simp [hR,hm,hn,ho1,ho2,hN]
    go_quiet ((first | (go_at_call 259;exact Calls.quiet_of_same (za5 hR _)) | (go_at_call 281;exact Calls.quiet_of_same (zba hq _)) | (go_at_call 63;exact Calls.quiet_of_same (zbb rfl _))))
    go_wp2_with fail;go_meet;exact ⟨by rw [HE.out],za3 _ _⟩
  | false=>
    cases h0:decide (0<=q) with
    | false=>
      have HE:Hid (C=false):=by show _=_;rw [HC.out];simp [hR,hm,hn,ho1,ho2,hN,h0]
      go_quiet ((first | (go_at_call 259;exact Calls.quiet_of_same (za5 hR _)) | (go_at_call 281;exact Calls.quiet_of_same (zba hq _)) | (go_at_call 63;exact Calls.quiet_of_same (zbb rfl _))))
      go_wp2_with fail;go_meet;exact ⟨by rw [HE.out],za3 _ _⟩
    | true=>
      cases hl:((l.length:Int) != q) with
      | false=>
        have HE:Hid (C=false):=by show _=_;rw [HC.out];simp [hR,hm,hn,ho1,ho2,hN,h0,hl]
        go_quiet ((first | (go_at_call 259;exact Calls.quiet_of_same (za5 hR _)) | (go_at_call 281;exact Calls.quiet_of_same (zba hq _)) | (go_at_call 63;exact Calls.quiet_of_same (zbb rfl _))))
        go_wp2_with fail;go_meet;exact ⟨by rw [HE.out],za3 _ _⟩
      | true=>
        have HE:Hid (C=true):=by show _=_;rw [HC.out];simp [hR,hm,hn,ho1,ho2,hN,h0,hl]
        go_quiet ((first | (go_at_call 259;exact Calls.quiet_of_same (za5 hR _)) | (go_at_call 281;exact Calls.quiet_of_same (zba hq _)) | (go_at_call 63;exact Calls.quiet_of_same (zbb rfl _))))
        go_wp2_with fail;go_meet;exact ⟨by rw [HE.out],za3 _ _⟩
 case rest=>
  obtain ⟨rfl,HBc⟩:=hcut;have HB0':Hid (Below w.heap.size w wc):=thenB HB0.out HBc.out;have HBx':Hid (Blk wc w.heap.size [.int .i64 op,.int .i64 n,.string mod,.string name,.slice aa l.length cap]):=HBx.out.later HBc.out;clear HB0 HBx HBc HC;have HB0:=HB0';have HBx:=HBx';clear HB0' HBx';have x4:=HBx.out.cell 4 _ rfl;have xz:=HBx.out.lt
  cases hCb:C with
  | true=>
    subst hCb;go_wp2_with fail;go_ret;exact ⟨zab (HR.out rfl),HB0.out⟩
  | false =>
    subst hCb;go_wp2_with fail
    go_loopw [7] (fun i wr=>∃ j:Nat,j<=l.length/\i = .int .i64 j/\(l.take j).any (eL 3 k)=false/\Below w.heap.size w wr/\Blk wr w.heap.size [.int .i64 op,.int .i64 n,.string mod,.string name,.slice aa l.length cap]) (fun i _=>l.length - (intOf i).toNat)
    case atStart=>exact ⟨0,vad _,rfl,rfl,HB0.out,HBx.out⟩
    case round=>
     obtain ⟨j,hj,rfl,hall,hb,hB⟩:=hrel;clear HBx HB0;clear x4 xz;have q4:=hB.cell 4 _ rfl;have qz:=hB.lt;have HB:Hid (Blk wr w.heap.size [.int .i64 op,.int .i64 n,.string mod,.string name,.slice aa l.length cap]):=hB;have HA:Hid ((l.take j).any (eL 3 k)=false):=hall;clear hall hB
     by_cases hlt:j<l.length
     . obtain ⟨b,off,a2,cp,rfl,hx⟩:=(HD.out.later hb).ex j hlt
       have hc0:=hx.c0;have hc1:=hx.c1;have hc2:=hx.c2;have hc3:=hx.c3;have hc4:=hx.c4;have hlb:=hx.lt;have HX:Hid (ExAt wr A b (off+j*5) l[j] a2 cp):=hx;clear hx;go_wp2_with fail;refine (HI.out l[j] a2 cp _ HX.out.args HX.out.wm HX.out.wna).mono ?_
       cases hr:eL 3 k l[j] with
       | true=>
         have HF:Hid (l.any (eL 3 k)=true):=zbj l _ j hlt hr;rintro e w3 ⟨rfl,hb3⟩;go_wp2_with fail;go_ret;exact ⟨zab (HR.out (by rw [HF.out,vby])),thenB hb hb3⟩
       | false=>
         have HT:Hid ((l.take (j+1)).any (eL 3 k)=false):=by
          show _=_
          rw [zat l _ j hlt,HA.out,hr];rfl
         rintro e w3 ⟨rfl,hb3⟩;go_wp2_with fail;go_roundw
         case rel=>exact ⟨j+1,by omega,by go_num,HT.out,thenB hb hb3,HB.out.later hb3⟩
         case measure=>simp [intOf];omega
     . have HT:Hid (l.any (eL 3 k)=false):=zbh HA.out hlt
       go_wp2_with fail;go_ret;exact ⟨zab (HR.out (by rw [HT.out];rfl)),hb⟩
theorem zsv (A:Nat->Prop) (k:Nat) (op n:Int) (mod name:ByteArray) (l:List Ex) (aa:OA) (cap:Nat) (deep:Int) (w:World) (hbd:l.length<=17592186044416) (hd1:1<=deep) (hd6:deep<=6)
 (HI:Hid (∀ (x:Ex) (aa:OA) (cap:Nat) (w:World),DAt w A aa x.args.length (za9 x.args)->x.mod.size<=maxLen->x.name.size<=maxLen->
   Calls Tryz.prog 247 #[.agg #[.int .i64 x.op,.int .i64 x.n,.string x.mod,.string x.name,.slice aa x.args.length cap],.int .i64 3,.int .i64 (deep+1)] w fun e w'=>e = .returned (.bool (eL 3 k x))/\Below w.heap.size w w'))
 (HD:Hid (DAt w A aa l.length (za9 l))) (HWm:Hid (mod.size<=maxLen)) (HWn:Hid (name.size<=maxLen))
 (hR:inB op 3 5=true) (hf:zc7 mod name=false) :
 Calls Tryz.prog 247 #[.agg #[.int .i64 op,.int .i64 n,.string mod,.string name,.slice aa l.length cap],.int .i64 3,.int .i64 deep] w fun e w'=>e = .returned (.bool (eL 3 (k+1) (.mk op n mod name l)))/\Below w.heap.size w w':=by
 have HR:Hid (∀ {b:Bool},(zh7 3 (.mk op n mod name l)||l.any (eL 3 k))=b->b=eL 3 (k+1) (.mk op n mod name l)):=fun h=>by rw [← h];simp [eL,Ex.args]
 have HBx:Hid (Blk (w.alloc (.cells #[.int .i64 op,.int .i64 n,.string mod,.string name,.slice aa l.length cap] 174)) w.heap.size [.int .i64 op,.int .i64 n,.string mod,.string name,.slice aa l.length cap]):=Blk.new w _ _;have HB0:Hid (Below w.heap.size w (w.alloc (.cells #[.int .i64 op,.int .i64 n,.string mod,.string name,.slice aa l.length cap] 174))):=al1 _ _;have HC:Hid (zh7 3 (.mk op n mod name l)=((inB op 3 5 && !zc7 mod name)||(!inB op 3 5&&(!mod.toList.isEmpty || !name.toList.isEmpty))||(op == 1 && !inB n 0 1099511627775)||(op != 1&&n != 0)||(decide (0<=exN op)&&((l.length:Int) != exN op)))):=rfl;generalize hCC:zh7 3 (.mk op n mod name l)=C at HC HR;clear hCC;go_enter Tryz.func247,Tryz.ntmps247;go_upto_region 11 with fail;generalize hW0:w.alloc (.cells #[.int .i64 op,.int .i64 n,.string mod,.string name,.slice aa l.length cap] 174)=W0 at *
 clear hW0
 go_cut [89] (fun v wc=>v = .bool C/\Hid (Below W0.heap.size W0 wc))
 case first=>
  clear HD HI HR HB0;obtain ⟨x0,x1,x2,x3,x4,xz⟩:=HBx.out.c5;have HBz:Hid (Below W0.heap.size W0 W0.drew):=(Below.refl _ _).drew;generalize hq:exN op=q at *;have ho1:(op == 1)=false:=beq_eq_false_iff_ne.2 (by simp [inB] at hR;omega)
  have ho2:(op != 1)=true:=by simp only [bne,ho1];rfl
  have HE:Hid (C=true):=by show _=_;rw [HC.out];simp [hR,hf]
  refine wp_region_held_drew (S:=(fun W=>W.cell? ⟨w.heap.size,0,none⟩=some (.int .i64 op)/\W.cell? ⟨w.heap.size,1,none⟩=some (.int .i64 n)/\W.cell? ⟨w.heap.size,2,none⟩=some (.string mod)/\W.cell? ⟨w.heap.size,3,none⟩=some (.string name)/\W.cell? ⟨w.heap.size,4,none⟩=some (.slice aa l.length cap))) (by kernel_rfl) ?_ (fun hHeld=>?_)
  . (try dsimp only);go_keep
  refine tqr 0 27 hHeld ?_
  (try simp only [Act.put,sx])
  refine tqr 1 28 hHeld ?_
  (try simp only [Act.put,sx])
  refine wpAnyH_ready (rs:=[2]) (by kernel_rfl) (by simp) ?_;refine AllReadyH.cons rfl (fun K hK=>?_) AllReadyH.nil;go_simp
  go_wp2_with (go_at_call 259;refine (za5 hR _).mono ?_;rintro e w' ⟨rfl,rfl⟩)
  refine hK.out _ _ hHeld (fun hHeld=>?_);clear hK K;refine tqr 3 30 hHeld ?_
  (try simp only [Act.put,sx])
  refine tqr 4 31 hHeld ?_
  (try simp only [Act.put,sx])
  refine tqr 5 32 hHeld ?_
  (try simp only [Act.put,sx])
  refine tqr 6 33 hHeld ?_
  (try simp only [Act.put,sx])
  refine tqr 7 34 hHeld ?_
  (try simp only [Act.put,sx])
  refine wpAnyH_ready (rs:=[8]) (by kernel_rfl) (by simp) ?_;refine AllReadyH.cons rfl (fun K hK=>?_) AllReadyH.nil;go_simp
  go_wp2_with (go_at_call 245;refine (zby hf _ HWm.out HWn.out).mono ?_;rintro e w' ⟨rfl,hb⟩)
  have FF:=bx5 HBx HBz hb;clear hb;refine hK.out _ _ FF.out.2 (fun hHeld=>?_);clear hK K;refine tqr 9 36 hHeld ?_
  (try simp only [Act.put,sx])
  refine tqr 10 37 hHeld ?_
  (try simp only [Act.put,sx])
  refine tqr 11 38 hHeld ?_
  (try simp only [Act.put,sx])
  refine tk (i:=12) (oi:=⟨some 39,_,_,_,_,_⟩) (v:=undef) rfl (by kernel_rfl) (fun _ _ _ h=>h) (Or.inr ⟨by rfl,rfl⟩) hHeld ?rb12
  (try simp only [Act.put,sx])
  refine tk (i:=13) (oi:=⟨some 40,_,_,_,_,_⟩) (v:=undef) rfl (by kernel_rfl) (fun _ _ _ h=>h) (Or.inr ⟨by rfl,rfl⟩) hHeld ?rb13
  (try simp only [Act.put,sx])
  refine tk (i:=14) (oi:=⟨some 41,_,_,_,_,_⟩) (v:=undef) rfl (by kernel_rfl) (fun _ _ _ h=>h) (Or.inr ⟨by rfl,rfl⟩) hHeld ?rb14
  (try simp only [Act.put,sx])
  refine tk (i:=15) (oi:=⟨some 42,_,_,_,_,_⟩) (v:=undef) rfl (by kernel_rfl) (fun _ _ _ h=>h) (Or.inr ⟨by rfl,rfl⟩) hHeld ?rb15
  (try simp only [Act.put,sx])
  refine tk (i:=16) (oi:=⟨some 43,_,_,_,_,_⟩) (v:=undef) rfl (by kernel_rfl) (fun _ _ _ h=>h) (Or.inr ⟨by rfl,rfl⟩) hHeld ?rb16
  (try simp only [Act.put,sx])
  refine tk (i:=17) (oi:=⟨some 44,_,_,_,_,_⟩) (v:=undef) rfl (by kernel_rfl) (fun _ _ _ h=>h) (Or.inr ⟨by rfl,rfl⟩) hHeld ?rb17
  (try simp only [Act.put,sx])
  refine tk (i:=18) (oi:=⟨some 45,_,_,_,_,_⟩) (v:=undef) rfl (by kernel_rfl) (fun _ _ _ h=>h) (Or.inr ⟨by rfl,rfl⟩) hHeld ?rb18
  (try simp only [Act.put,sx])
  refine tk (i:=19) (oi:=⟨some 46,_,_,_,_,_⟩) (v:=undef) rfl (by kernel_rfl) (fun _ _ _ h=>h) (Or.inr ⟨by rfl,rfl⟩) hHeld ?rb19
  (try simp only [Act.put,sx])
  refine tk (i:=20) (oi:=⟨some 47,_,_,_,_,_⟩) (v:=undef) rfl (by kernel_rfl) (fun _ _ _ h=>h) (Or.inr ⟨by rfl,rfl⟩) hHeld ?rb20
  (try simp only [Act.put,sx])
  refine tk (i:=21) (oi:=⟨some 48,_,_,_,_,_⟩) (v:=undef) rfl (by kernel_rfl) (fun _ _ _ h=>h) (Or.inr ⟨by rfl,rfl⟩) hHeld ?rb21
  (try simp only [Act.put,sx])
  refine tk (i:=22) (oi:=⟨some 49,_,_,_,_,_⟩) (v:=undef) rfl (by kernel_rfl) (fun _ _ _ h=>h) (Or.inr ⟨by rfl,rfl⟩) hHeld ?rb22
  (try simp only [Act.put,sx])
  refine tk (i:=23) (oi:=⟨some 50,_,_,_,_,_⟩) (v:=undef) rfl (by kernel_rfl) (fun _ _ _ h=>h) (Or.inr ⟨by rfl,rfl⟩) hHeld ?rb23
  (try simp only [Act.put,sx])
  refine tk (i:=24) (oi:=⟨some 51,_,_,_,_,_⟩) (v:=undef) rfl (by kernel_rfl) (fun _ _ _ h=>h) (Or.inr ⟨by rfl,rfl⟩) hHeld ?rb24
  (try simp only [Act.put,sx])
  refine tk (i:=25) (oi:=⟨some 52,_,_,_,_,_⟩) (v:=undef) rfl (by kernel_rfl) (fun _ _ _ h=>h) (Or.inr ⟨by rfl,rfl⟩) hHeld ?rb25
  (try simp only [Act.put,sx])
  refine tqr 26 53 hHeld ?_
  (try simp only [Act.put,sx])
  refine tqr 27 54 hHeld ?_
  (try simp only [Act.put,sx])
  refine tk (i:=28) (oi:=⟨some 55,_,_,_,_,_⟩) (v:=undef) rfl (by kernel_rfl) (fun _ _ _ h=>h) (Or.inr ⟨by rfl,rfl⟩) hHeld ?rb28
  (try simp only [Act.put,sx])
  refine tk (i:=29) (oi:=⟨some 56,_,_,_,_,_⟩) (v:=undef) rfl (by kernel_rfl) (fun _ _ _ h=>h) (Or.inr ⟨by rfl,rfl⟩) hHeld ?rb29
  (try simp only [Act.put,sx])
  refine tk (i:=30) (oi:=⟨some 57,_,_,_,_,_⟩) (v:=undef) rfl (by kernel_rfl) (fun _ _ _ h=>h) (Or.inr ⟨by rfl,rfl⟩) hHeld ?rb30
  (try simp only [Act.put,sx])
  refine tk (i:=31) (oi:=⟨some 58,_,_,_,_,_⟩) (v:=undef) rfl (by kernel_rfl) (fun _ _ _ h=>h) (Or.inr ⟨by rfl,rfl⟩) hHeld ?rb31
  (try simp only [Act.put,sx])
  refine tk (i:=32) (oi:=⟨some 59,_,_,_,_,_⟩) (v:=undef) rfl (by kernel_rfl) (fun _ _ _ h=>h) (Or.inr ⟨by rfl,rfl⟩) hHeld ?rb32
  (try simp only [Act.put,sx])
  refine tk (i:=33) (oi:=⟨some 60,_,_,_,_,_⟩) (v:=undef) rfl (by kernel_rfl) (fun _ _ _ h=>h) (Or.inr ⟨by rfl,rfl⟩) hHeld ?rb33
  (try simp only [Act.put,sx])
  refine tk (i:=34) (oi:=⟨some 61,_,_,_,_,_⟩) (v:=undef) rfl (by kernel_rfl) (fun _ _ _ h=>h) (Or.inr ⟨by rfl,rfl⟩) hHeld ?rb34
  (try simp only [Act.put,sx])
  refine tk (i:=35) (oi:=⟨some 62,_,_,_,_,_⟩) (v:=undef) rfl (by kernel_rfl) (fun _ _ _ h=>h) (Or.inr ⟨by rfl,rfl⟩) hHeld ?rb35
  (try simp only [Act.put,sx])
  refine tk (i:=36) (oi:=⟨some 63,_,_,_,_,_⟩) (v:=undef) rfl (by kernel_rfl) (fun _ _ _ h=>h) (Or.inr ⟨by rfl,rfl⟩) hHeld ?rb36
  (try simp only [Act.put,sx])
  refine tqr 37 64 hHeld ?_
  (try simp only [Act.put,sx])
  refine tqr 38 65 hHeld ?_
  (try simp only [Act.put,sx])
  refine tk (i:=39) (oi:=⟨some 66,_,_,_,_,_⟩) (v:=undef) rfl (by kernel_rfl) (fun _ _ _ h=>h) (Or.inr ⟨by rfl,rfl⟩) hHeld ?rb39
  (try simp only [Act.put,sx])
  refine tk (i:=40) (oi:=⟨some 67,_,_,_,_,_⟩) (v:=undef) rfl (by kernel_rfl) (fun _ _ _ h=>h) (Or.inr ⟨by rfl,rfl⟩) hHeld ?rb40
  (try simp only [Act.put,sx])
  refine tk (i:=41) (oi:=⟨some 68,_,_,_,_,_⟩) (v:=undef) rfl (by kernel_rfl) (fun _ _ _ h=>h) (Or.inr ⟨by rfl,rfl⟩) hHeld ?rb41
  (try simp only [Act.put,sx])
  refine tk (i:=42) (oi:=⟨some 69,_,_,_,_,_⟩) (v:=undef) rfl (by kernel_rfl) (fun _ _ _ h=>h) (Or.inr ⟨by rfl,rfl⟩) hHeld ?rb42
  (try simp only [Act.put,sx])
  refine tk (i:=43) (oi:=⟨some 70,_,_,_,_,_⟩) (v:=undef) rfl (by kernel_rfl) (fun _ _ _ h=>h) (Or.inr ⟨by rfl,rfl⟩) hHeld ?rb43
  (try simp only [Act.put,sx])
  refine tk (i:=44) (oi:=⟨some 71,_,_,_,_,_⟩) (v:=undef) rfl (by kernel_rfl) (fun _ _ _ h=>h) (Or.inr ⟨by rfl,rfl⟩) hHeld ?rb44
  (try simp only [Act.put,sx])
  refine tk (i:=45) (oi:=⟨some 72,_,_,_,_,_⟩) (v:=undef) rfl (by kernel_rfl) (fun _ _ _ h=>h) (Or.inr ⟨by rfl,rfl⟩) hHeld ?rb45
  (try simp only [Act.put,sx])
  refine tk (i:=46) (oi:=⟨some 73,_,_,_,_,_⟩) (v:=undef) rfl (by kernel_rfl) (fun _ _ _ h=>h) (Or.inr ⟨by rfl,rfl⟩) hHeld ?rb46
  (try simp only [Act.put,sx])
  refine tqr 47 74 hHeld ?_
  (try simp only [Act.put,sx])
  refine tqr 48 75 hHeld ?_
  (try simp only [Act.put,sx])
  refine tk (i:=49) (oi:=⟨some 76,_,_,_,_,_⟩) (v:=undef) rfl (by kernel_rfl) (fun _ _ _ h=>h) (Or.inr ⟨by rfl,rfl⟩) hHeld ?rb49
  (try simp only [Act.put,sx])
  refine tk (i:=50) (oi:=⟨some 77,_,_,_,_,_⟩) (v:=undef) rfl (by kernel_rfl) (fun _ _ _ h=>h) (Or.inr ⟨by rfl,rfl⟩) hHeld ?rb50
  (try simp only [Act.put,sx])
  refine tk (i:=51) (oi:=⟨some 78,_,_,_,_,_⟩) (v:=undef) rfl (by kernel_rfl) (fun _ _ _ h=>h) (Or.inr ⟨by rfl,rfl⟩) hHeld ?rb51
  (try simp only [Act.put,sx])
  refine tk (i:=52) (oi:=⟨some 79,_,_,_,_,_⟩) (v:=undef) rfl (by kernel_rfl) (fun _ _ _ h=>h) (Or.inr ⟨by rfl,rfl⟩) hHeld ?rb52
  (try simp only [Act.put,sx])
  refine tk (i:=53) (oi:=⟨some 80,_,_,_,_,_⟩) (v:=undef) rfl (by kernel_rfl) (fun _ _ _ h=>h) (Or.inr ⟨by rfl,rfl⟩) hHeld ?rb53
  (try simp only [Act.put,sx])
  refine tk (i:=54) (oi:=⟨some 81,_,_,_,_,_⟩) (v:=undef) rfl (by kernel_rfl) (fun _ _ _ h=>h) (Or.inr ⟨by rfl,rfl⟩) hHeld ?rb54
  (try simp only [Act.put,sx])
  refine tk (i:=55) (oi:=⟨some 82,_,_,_,_,_⟩) (v:=undef) rfl (by kernel_rfl) (fun _ _ _ h=>h) (Or.inr ⟨by rfl,rfl⟩) hHeld ?rb55
  (try simp only [Act.put,sx])
  refine tk (i:=56) (oi:=⟨some 83,_,_,_,_,_⟩) (v:=undef) rfl (by kernel_rfl) (fun _ _ _ h=>h) (Or.inr ⟨by rfl,rfl⟩) hHeld ?rb56
  (try simp only [Act.put,sx])
  refine tk (i:=57) (oi:=⟨some 84,_,_,_,_,_⟩) (v:=undef) rfl (by kernel_rfl) (fun _ _ _ h=>h) (Or.inr ⟨by rfl,rfl⟩) hHeld ?rb57
  (try simp only [Act.put,sx])
  refine tk (i:=58) (oi:=⟨some 85,_,_,_,_,_⟩) (v:=undef) rfl (by kernel_rfl) (fun _ _ _ h=>h) (Or.inr ⟨by rfl,rfl⟩) hHeld ?rb58
  (try simp only [Act.put,sx])
  refine tk (i:=59) (oi:=⟨some 86,_,_,_,_,_⟩) (v:=undef) rfl (by kernel_rfl) (fun _ _ _ h=>h) (Or.inr ⟨by rfl,rfl⟩) hHeld ?rb59
  (try simp only [Act.put,sx])
  refine tk (i:=60) (oi:=⟨some 87,_,_,_,_,_⟩) (v:=undef) rfl (by kernel_rfl) (fun _ _ _ h=>h) (Or.inr ⟨by rfl,rfl⟩) hHeld ?rb60
  (try simp only [Act.put,sx])
  refine tk (i:=61) (oi:=⟨some 88,_,_,_,_,_⟩) (v:=undef) rfl (by kernel_rfl) (fun _ _ _ h=>h) (Or.inr ⟨by rfl,rfl⟩) hHeld ?rb61
  (try simp only [Act.put,sx])
  refine tqr 62 89 hHeld ?_
  (try simp only [Act.put,sx])
  refine wpAnyH_done (by kernel_rfl) ?_ _;go_wp2_with fail;go_meet;exact ⟨by rw [HE.out],zvs FF⟩
 case rest=>
  obtain ⟨rfl,HBc⟩:=hcut;have HB0':Hid (Below w.heap.size w wc):=thenB HB0.out HBc.out;have HBx':Hid (Blk wc w.heap.size [.int .i64 op,.int .i64 n,.string mod,.string name,.slice aa l.length cap]):=HBx.out.later HBc.out;clear HB0 HBx HBc HC;have HB0:=HB0';have HBx:=HBx';clear HB0' HBx';have x4:=HBx.out.cell 4 _ rfl;have xz:=HBx.out.lt
  cases hCb:C with
  | true=>
    subst hCb;go_wp2_with fail;go_ret;exact ⟨zab (HR.out rfl),HB0.out⟩
  | false =>
    subst hCb;go_wp2_with fail
    go_loopw [7] (fun i wr=>∃ j:Nat,j<=l.length/\i = .int .i64 j/\(l.take j).any (eL 3 k)=false/\Below w.heap.size w wr/\Blk wr w.heap.size [.int .i64 op,.int .i64 n,.string mod,.string name,.slice aa l.length cap]) (fun i _=>l.length - (intOf i).toNat)
    case atStart=>exact ⟨0,vad _,rfl,rfl,HB0.out,HBx.out⟩
    case round=>
     obtain ⟨j,hj,rfl,hall,hb,hB⟩:=hrel;clear HBx HB0;clear x4 xz;have q4:=hB.cell 4 _ rfl;have qz:=hB.lt;have HB:Hid (Blk wr w.heap.size [.int .i64 op,.int .i64 n,.string mod,.string name,.slice aa l.length cap]):=hB;have HA:Hid ((l.take j).any (eL 3 k)=false):=hall;clear hall hB
     by_cases hlt:j<l.length
     . obtain ⟨b,off,a2,cp,rfl,hx⟩:=(HD.out.later hb).ex j hlt
       have hc0:=hx.c0;have hc1:=hx.c1;have hc2:=hx.c2;have hc3:=hx.c3;have hc4:=hx.c4;have hlb:=hx.lt;have HX:Hid (ExAt wr A b (off+j*5) l[j] a2 cp):=hx;clear hx;go_wp2_with fail;refine (HI.out l[j] a2 cp _ HX.out.args HX.out.wm HX.out.wna).mono ?_
       cases hr:eL 3 k l[j] with
       | true=>
         have HF:Hid (l.any (eL 3 k)=true):=zbj l _ j hlt hr;rintro e w3 ⟨rfl,hb3⟩;go_wp2_with fail;go_ret;exact ⟨zab (HR.out (by rw [HF.out,vby])),thenB hb hb3⟩
       | false=>
         have HT:Hid ((l.take (j+1)).any (eL 3 k)=false):=by
          show _=_
          rw [zat l _ j hlt,HA.out,hr];rfl
         rintro e w3 ⟨rfl,hb3⟩;go_wp2_with fail;go_roundw
         case rel=>exact ⟨j+1,by omega,by go_num,HT.out,thenB hb hb3,HB.out.later hb3⟩
         case measure=>simp [intOf];omega
     . have HT:Hid (l.any (eL 3 k)=false):=zbh HA.out hlt
       go_wp2_with fail;go_ret;exact ⟨zab (HR.out (by rw [HT.out];rfl)),hb⟩
end Go.Proofs.YtndkhgakfodldaaGreatDoor
