/-
  The document's look at an expression.
-/
import Derived.Test.YtcekpobmbmnplaaGreatDoorFj
import Derived.Deep.RegionHeld
import Derived.Deep.RegionHeld3
import Derived.Deep.QuietTactic
import Derived.BigQuiet
import Derived.Deep.CutRange
import Derived.Deep.DeepCutAuto
namespace Go.Proofs.YtcekpobmbmnplaaGreatDoor
open Go.RowKit Go.Maps
section
variable {P:Program} {ops:Array Oper} {Q:Exit->Act->World->Prop} {md:Region.Mode} {S:World->Prop} {o1:Op} {o2:TypeId} {o3:String} {o4:Array Edge} {o5:Option (Nat × Bool)} {v:Value} {fuel:Nat} {listed:Array Bool} {a:Act} {w:World}
theorem tq (i d:Nat) (hS:S w) (h:wpAnyH P md ops Q S fuel (listed.setIfInBounds i true) (a.put (some d) v) w) (hi:ops[i]? = some (Oper.mk (some d) o1 o2 o3 o4 o5):=by exact rfl)
 (hg:Region.wanted (Oper.mk (some d) o1 o2 o3 o4 o5) (yielded ops a.tmps)=true:=by rfl) (hy:∀ w,S w->(execOp a.eval (Oper.mk (some d) o1 o2 o3 o4 o5)).run P w = .ok (.value v) w:=by (intro w hSw;(try dsimp only at hSw);go_simp;(try with_reducible rfl)))
 (hb:(Region.noSelect ops&&(Region.free md ops listed i&&(Region.ready md ops listed).contains i))=true:=by kernel_rfl)
 (hQ:∀ c a w,Q (.panic c) (a.put (some d) v) w->Q (.panic c) a w:=by exact fun _ _ _ h=>h):wpAnyH P md ops Q S (fuel+1) listed a w:=by
 simp only [Bool.and_eq_true] at hb;exact wpAnyH_take hi hb.1 hb.2.1 hb.2.2 hQ (Or.inl ⟨hg,hy⟩) hS h
theorem tu (i d:Nat) (hS:S w) (h:wpAnyH P md ops Q S fuel (listed.setIfInBounds i true) (a.put (some d) undef) w) (hi:ops[i]? = some (Oper.mk (some d) o1 o2 o3 o4 o5):=by exact rfl)
 (hg:Region.wanted (Oper.mk (some d) o1 o2 o3 o4 o5) (yielded ops a.tmps)=false:=by rfl)
 (hb:(Region.noSelect ops&&(Region.free md ops listed i&&(Region.ready md ops listed).contains i))=true:=by kernel_rfl)
 (hQ:∀ c a w,Q (.panic c) (a.put (some d) undef) w->Q (.panic c) a w:=by exact fun _ _ _ h=>h):wpAnyH P md ops Q S (fuel+1) listed a w:=by
 simp only [Bool.and_eq_true] at hb;exact wpAnyH_take hi hb.1 hb.2.1 hb.2.2 hQ (Or.inr ⟨hg,rfl⟩) hS h
end
def c3 (x:Ex):Bool:=(inB x.op 3 5 && !zd0 x.mod x.name)||(!inB x.op 3 5&&(!x.mod.toList.isEmpty || !x.name.toList.isEmpty))||(x.op == 1 && !inB x.n 0 1099511627775)||(x.op != 1&&x.n != 0)||(decide (0<=exN x.op)&&((x.args.length:Int) != exN x.op))
def zi0 (lv:Int) (x:Ex):Bool:=if lv=1 then !inB x.op 1 15 else if lv=2 then decide (3<x.args.length) else c3 x
def eL (lv:Int):Nat->Ex->Bool
 | 0,_=>lv == 2
 | k+1,x=>zi0 lv x||x.args.any (eL lv k)
theorem za9 {op:Int} {b:Bool} (h:inB op 3 5=b) (w:World):Calls Tryz.prog 128 #[.int .i64 op] w fun e w'=>e = .returned (.bool b)/\w'=w:=by
 subst h;exact zqg op w
theorem zbl {op q:Int} (h:exN op=q) (w:World):Calls Tryz.prog 129 #[.int .i64 op] w fun e w'=>e = .returned (.int .i64 q)/\w'=w:=by
 subst h;exact zou op w
theorem zbm {n lo hi:Int} {b:Bool} (h:inB n lo hi=b) (w:World):Calls Tryz.prog 44 #[.int .i64 n,.int .i64 lo,.int .i64 hi] w fun e w'=>e = .returned (.bool b)/\w'=w:=by
 subst h;exact zeu n lo hi w
theorem zcq {mod name:ByteArray} {b:Bool} (h:zd0 mod name=b) (w:World) (h1:mod.size<=maxLen) (h2:name.size<=maxLen) :
 Calls Tryz.prog 113 #[.string mod,.string name] w fun e w'=>e = .returned (.bool b)/\Below w.heap.size w w':=by
 subst h;exact zqf mod name w h1 h2
theorem za6 (w:World) (n:Nat):Below w.heap.size w (w.drewN n):=by
 induction n with
 | zero=>exact Below.refl _ _
 | succ n ih=>exact ih.drew
theorem zvy {w0 w':World} {P:Prop} (h:Hid (Below w0.heap.size w0 w'/\P)):Hid (Below w0.heap.size w0 w'):=h.out.1
theorem bx5 {W0 W W':World} {b:Nat} {u0 u1 u2 u3 u4:Value} (hB:Hid (Blk W0 b [u0,u1,u2,u3,u4])) (h0:Hid (Below W0.heap.size W0 W)) (hb:Below W.heap.size W W') :
 Hid (Below W0.heap.size W0 W'/\W'.cell? ⟨b,0,none⟩=some u0/\W'.cell? ⟨b,1,none⟩=some u1/\W'.cell? ⟨b,2,none⟩=some u2/\W'.cell? ⟨b,3,none⟩=some u3/\W'.cell? ⟨b,4,none⟩=some u4):=by
 have h:=zab h0.out hb;have c:=(hB.out.later h).c5;exact ⟨h,c.1,c.2.1,c.2.2.1,c.2.2.2.1,c.2.2.2.2.1⟩
theorem zys {op n:Int} {mod name:ByteArray} {l:List Ex} {b:Bool} (h:inB op 1 15=b):zi0 1 (.mk op n mod name l) = !b:=by subst h;rfl
end Go.Proofs.YtcekpobmbmnplaaGreatDoor

namespace Go.Proofs.YtcekpobmbmnplaaGreatDoor
set_option maxRecDepth 100000
set_option maxHeartbeats 8000000
open Go.RowKit Go.Maps
theorem zvz (A:Nat->Prop) (k:Nat) (op n:Int) (mod name:ByteArray) (l:List Ex) (aa:Option Addr) (cap:Nat) (deep:Int) (w:World) (hbd:l.length<=17592186044416) (hd1:1<=deep) (hd6:deep<=6)
 (HI:Hid (∀ (x:Ex) (aa:Option Addr) (cap:Nat) (w:World),DAt w A aa x.args.length (zaw x.args)->x.mod.size<=maxLen->x.name.size<=maxLen->
   Calls Tryz.prog 115 #[.agg #[.int .i64 x.op,.int .i64 x.n,.string x.mod,.string x.name,.slice aa x.args.length cap],.int .i64 1,.int .i64 (deep+1)] w fun e w'=>e = .returned (.bool (eL 1 k x))/\Below w.heap.size w w'))
 (HD:Hid (DAt w A aa l.length (zaw l))) (_HWm:Hid (mod.size<=maxLen)) (_HWn:Hid (name.size<=maxLen)) :
 Calls Tryz.prog 115 #[.agg #[.int .i64 op,.int .i64 n,.string mod,.string name,.slice aa l.length cap],.int .i64 1,.int .i64 deep] w fun e w'=>e = .returned (.bool (eL 1 (k+1) (.mk op n mod name l)))/\Below w.heap.size w w':=by
 have HR:Hid (∀ {b:Bool},(zi0 1 (.mk op n mod name l)||l.any (eL 1 k))=b->b=eL 1 (k+1) (.mk op n mod name l)):=fun h=>by rw [← h];simp [eL,Ex.args]
 have HBx:Hid (Blk (w.alloc (.cells #[.int .i64 op,.int .i64 n,.string mod,.string name,.slice aa l.length cap] 76)) w.heap.size [.int .i64 op,.int .i64 n,.string mod,.string name,.slice aa l.length cap]):=Blk.new w _ _;have HB0:Hid (Below w.heap.size w (w.alloc (.cells #[.int .i64 op,.int .i64 n,.string mod,.string name,.slice aa l.length cap] 76))):=al1 _ _
 cases hK:inB op 1 15 with
 | false=>
   have HQ:Hid (zi0 1 (.mk op n mod name l)=true):=zys hK;go_enter Tryz.func115,Tryz.ntmps115
   go_wp2_with (go_at_call 44;refine (zbm hK _).mono ?_;rintro e w' ⟨rfl,rfl⟩)
   go_ret;exact ⟨zaa (HR.out (by rw [HQ.out];rfl)),HB0.out⟩
 | true =>
   have HQ:Hid (zi0 1 (.mk op n mod name l)=false):=zys hK;go_enter Tryz.func115,Tryz.ntmps115
   go_wp2_with (go_at_call 44;refine (zbm hK _).mono ?_;rintro e w' ⟨rfl,rfl⟩)
   go_wp2_with fail
   go_loopw [7] (fun i wr=>∃ j:Nat,j<=l.length/\i = .int .i64 j/\(l.take j).any (eL 1 k)=false/\Below w.heap.size w wr/\Blk wr w.heap.size [.int .i64 op,.int .i64 n,.string mod,.string name,.slice aa l.length cap]) (fun i _=>l.length - (intOf i).toNat)
   case atStart=>exact ⟨0,Nat.zero_le _,rfl,rfl,HB0.out,HBx.out⟩
   case round=>
    obtain ⟨j,hj,rfl,hall,hb,hB⟩:=hrel;clear HBx HB0;have q4:=hB.cell 4 _ rfl;have qz:=hB.lt;have HB:Hid (Blk wr w.heap.size [.int .i64 op,.int .i64 n,.string mod,.string name,.slice aa l.length cap]):=hB;have HA:Hid ((l.take j).any (eL 1 k)=false):=hall;clear hall hB
    by_cases hlt:j<l.length
    . obtain ⟨b,off,a2,cp,rfl,hx⟩:=(HD.out.later hb).ex j hlt
      have hc0:=hx.c0;have hc1:=hx.c1;have hc2:=hx.c2;have hc3:=hx.c3;have hc4:=hx.c4;have hlb:=hx.lt;have HX:Hid (ExAt wr A b (off+j*5) l[j] a2 cp):=hx;clear hx;go_wp2_with fail;refine (HI.out l[j] a2 cp _ HX.out.args HX.out.wm HX.out.wna).mono ?_
      cases hr:eL 1 k l[j] with
      | true=>
        have HF:Hid (l.any (eL 1 k)=true):=zbw l _ j hlt hr;rintro e w3 ⟨rfl,hb3⟩;go_wp2_with fail;go_ret;exact ⟨zaa (HR.out (by rw [HF.out,Bool.or_true])),zab hb hb3⟩
      | false=>
        have HT:Hid ((l.take (j+1)).any (eL 1 k)=false):=by
         show _=_
         rw [za1 l _ j hlt,HA.out,hr];rfl
        rintro e w3 ⟨rfl,hb3⟩;go_wp2_with fail;go_roundw
        case rel=>exact ⟨j+1,by omega,by go_num,HT.out,zab hb hb3,HB.out.later hb3⟩
        case measure=>simp [intOf];omega
    . have HT:Hid (l.any (eL 1 k)=false):=zbq HA.out hlt
      go_wp2_with fail;go_ret;exact ⟨zaa (HR.out (by rw [HT.out];rw [HQ.out];rfl)),hb⟩
theorem zv0 (A:Nat->Prop) (k:Nat) (op n:Int) (mod name:ByteArray) (l:List Ex) (aa:Option Addr) (cap:Nat) (deep:Int) (w:World) (hbd:l.length<=17592186044416) (hd1:1<=deep) (hd6:deep<=6)
 (HI:Hid (∀ (x:Ex) (aa:Option Addr) (cap:Nat) (w:World),DAt w A aa x.args.length (zaw x.args)->x.mod.size<=maxLen->x.name.size<=maxLen->
   Calls Tryz.prog 115 #[.agg #[.int .i64 x.op,.int .i64 x.n,.string x.mod,.string x.name,.slice aa x.args.length cap],.int .i64 2,.int .i64 (deep+1)] w fun e w'=>e = .returned (.bool (eL 2 k x))/\Below w.heap.size w w'))
 (HD:Hid (DAt w A aa l.length (zaw l))) (_HWm:Hid (mod.size<=maxLen)) (_HWn:Hid (name.size<=maxLen)) :
 Calls Tryz.prog 115 #[.agg #[.int .i64 op,.int .i64 n,.string mod,.string name,.slice aa l.length cap],.int .i64 2,.int .i64 deep] w fun e w'=>e = .returned (.bool (eL 2 (k+1) (.mk op n mod name l)))/\Below w.heap.size w w':=by
 have HR:Hid (∀ {b:Bool},(zi0 2 (.mk op n mod name l)||l.any (eL 2 k))=b->b=eL 2 (k+1) (.mk op n mod name l)):=fun h=>by rw [← h];simp [eL,Ex.args]
 have HBx:Hid (Blk (w.alloc (.cells #[.int .i64 op,.int .i64 n,.string mod,.string name,.slice aa l.length cap] 76)) w.heap.size [.int .i64 op,.int .i64 n,.string mod,.string name,.slice aa l.length cap]):=Blk.new w _ _;have HB0:Hid (Below w.heap.size w (w.alloc (.cells #[.int .i64 op,.int .i64 n,.string mod,.string name,.slice aa l.length cap] 76))):=al1 _ _
 by_cases h3:3<l.length
 . have HQ:Hid (zi0 2 (.mk op n mod name l)=true):=decide_eq_true h3
   go_enter Tryz.func115,Tryz.ntmps115;go_wp2_with fail;go_ret;exact ⟨zaa (HR.out (by rw [HQ.out];rfl)),HB0.out⟩
 . have HQ:Hid (zi0 2 (.mk op n mod name l)=false):=decide_eq_false h3
   go_enter Tryz.func115,Tryz.ntmps115;go_wp2_with fail
   go_loopw [7] (fun i wr=>∃ j:Nat,j<=l.length/\i = .int .i64 j/\(l.take j).any (eL 2 k)=false/\Below w.heap.size w wr/\Blk wr w.heap.size [.int .i64 op,.int .i64 n,.string mod,.string name,.slice aa l.length cap]) (fun i _=>l.length - (intOf i).toNat)
   case atStart=>exact ⟨0,Nat.zero_le _,rfl,rfl,HB0.out,HBx.out⟩
   case round=>
    obtain ⟨j,hj,rfl,hall,hb,hB⟩:=hrel;clear HBx HB0;have q4:=hB.cell 4 _ rfl;have qz:=hB.lt;have HB:Hid (Blk wr w.heap.size [.int .i64 op,.int .i64 n,.string mod,.string name,.slice aa l.length cap]):=hB;have HA:Hid ((l.take j).any (eL 2 k)=false):=hall;clear hall hB
    by_cases hlt:j<l.length
    . obtain ⟨b,off,a2,cp,rfl,hx⟩:=(HD.out.later hb).ex j hlt
      have hc0:=hx.c0;have hc1:=hx.c1;have hc2:=hx.c2;have hc3:=hx.c3;have hc4:=hx.c4;have hlb:=hx.lt;have HX:Hid (ExAt wr A b (off+j*5) l[j] a2 cp):=hx;clear hx;go_wp2_with fail;refine (HI.out l[j] a2 cp _ HX.out.args HX.out.wm HX.out.wna).mono ?_
      cases hr:eL 2 k l[j] with
      | true=>
        have HF:Hid (l.any (eL 2 k)=true):=zbw l _ j hlt hr;rintro e w3 ⟨rfl,hb3⟩;go_wp2_with fail;go_ret;exact ⟨zaa (HR.out (by rw [HF.out,Bool.or_true])),zab hb hb3⟩
      | false=>
        have HT:Hid ((l.take (j+1)).any (eL 2 k)=false):=by
         show _=_
         rw [za1 l _ j hlt,HA.out,hr];rfl
        rintro e w3 ⟨rfl,hb3⟩;go_wp2_with fail;go_roundw
        case rel=>exact ⟨j+1,by omega,by go_num,HT.out,zab hb hb3,HB.out.later hb3⟩
        case measure=>simp [intOf];omega
    . have HT:Hid (l.any (eL 2 k)=false):=zbq HA.out hlt
      go_wp2_with fail;go_ret;exact ⟨zaa (HR.out (by rw [HT.out];rw [HQ.out];rfl)),hb⟩
end Go.Proofs.YtcekpobmbmnplaaGreatDoor

namespace Go.Proofs.YtcekpobmbmnplaaGreatDoor
set_option maxRecDepth 100000
set_option maxHeartbeats 8000000
open Go.RowKit Go.Maps
theorem zmf (A:Nat->Prop) (k:Nat) (op n:Int) (mod name:ByteArray) (l:List Ex) (aa:Option Addr) (cap:Nat) (deep:Int) (w:World) (hbd:l.length<=17592186044416) (hd1:1<=deep) (hd6:deep<=6)
 (HI:Hid (∀ (x:Ex) (aa:Option Addr) (cap:Nat) (w:World),DAt w A aa x.args.length (zaw x.args)->x.mod.size<=maxLen->x.name.size<=maxLen->
   Calls Tryz.prog 115 #[.agg #[.int .i64 x.op,.int .i64 x.n,.string x.mod,.string x.name,.slice aa x.args.length cap],.int .i64 3,.int .i64 (deep+1)] w fun e w'=>e = .returned (.bool (eL 3 k x))/\Below w.heap.size w w'))
 (HD:Hid (DAt w A aa l.length (zaw l))) (_HWm:Hid (mod.size<=maxLen)) (_HWn:Hid (name.size<=maxLen))
 (hR:inB op 3 5=false) (hmn:mod.toList.isEmpty=false\/(mod.toList.isEmpty=true/\name.toList.isEmpty=false)) :
 Calls Tryz.prog 115 #[.agg #[.int .i64 op,.int .i64 n,.string mod,.string name,.slice aa l.length cap],.int .i64 3,.int .i64 deep] w fun e w'=>e = .returned (.bool (eL 3 (k+1) (.mk op n mod name l)))/\Below w.heap.size w w':=by
 have HR:Hid (∀ {b:Bool},(zi0 3 (.mk op n mod name l)||l.any (eL 3 k))=b->b=eL 3 (k+1) (.mk op n mod name l)):=fun h=>by rw [← h];simp [eL,Ex.args]
 have HBx:Hid (Blk (w.alloc (.cells #[.int .i64 op,.int .i64 n,.string mod,.string name,.slice aa l.length cap] 76)) w.heap.size [.int .i64 op,.int .i64 n,.string mod,.string name,.slice aa l.length cap]):=Blk.new w _ _;have HB0:Hid (Below w.heap.size w (w.alloc (.cells #[.int .i64 op,.int .i64 n,.string mod,.string name,.slice aa l.length cap] 76))):=al1 _ _;have HC:Hid (zi0 3 (.mk op n mod name l)=((inB op 3 5 && !zd0 mod name)||(!inB op 3 5&&(!mod.toList.isEmpty || !name.toList.isEmpty))||(op == 1 && !inB n 0 1099511627775)||(op != 1&&n != 0)||(decide (0<=exN op)&&((l.length:Int) != exN op)))):=rfl;generalize hCC:zi0 3 (.mk op n mod name l)=C at HC HR;clear hCC;go_enter Tryz.func115,Tryz.ntmps115;go_upto_region 11 with fail;generalize hW0:w.alloc (.cells #[.int .i64 op,.int .i64 n,.string mod,.string name,.slice aa l.length cap] 76)=W0 at *
 clear hW0
 go_cut [89] (fun v wc=>v = .bool C/\Hid (Below W0.heap.size W0 wc))
 case first=>
  clear HD HI HR HB0;obtain ⟨x0,x1,x2,x3,x4,xz⟩:=HBx.out.c5;have HBz:Hid (Below W0.heap.size W0 W0.drew):=(Below.refl _ _).drew;generalize hq:exN op=q at *
  rcases hmn with hm | ⟨hm,hn⟩
  . skip
    have HE:Hid (C=true):=by show _=_;rw [HC.out];simp [hR,hm]
    go_quiet ((first | (go_at_call 128;exact Calls.quiet_of_same (za9 hR _)) | (go_at_call 129;exact Calls.quiet_of_same (zbl hq _)) | (go_at_call 44;exact Calls.quiet_of_same (zbm rfl _))))
    go_wp2_with fail;go_meet;exact ⟨by rw [HE.out],za6 _ _⟩
  . skip
    have HE:Hid (C=true):=by show _=_;rw [HC.out];simp [hR,hm,hn]
    go_quiet ((first | (go_at_call 128;exact Calls.quiet_of_same (za9 hR _)) | (go_at_call 129;exact Calls.quiet_of_same (zbl hq _)) | (go_at_call 44;exact Calls.quiet_of_same (zbm rfl _))))
    go_wp2_with fail;go_meet;exact ⟨by rw [HE.out],za6 _ _⟩
 case rest=>
  obtain ⟨rfl,HBc⟩:=hcut;have HB0':Hid (Below w.heap.size w wc):=zab HB0.out HBc.out;have HBx':Hid (Blk wc w.heap.size [.int .i64 op,.int .i64 n,.string mod,.string name,.slice aa l.length cap]):=HBx.out.later HBc.out;clear HB0 HBx HBc HC;have HB0:=HB0';have HBx:=HBx';clear HB0' HBx';have x4:=HBx.out.cell 4 _ rfl;have xz:=HBx.out.lt
  cases hCb:C with
  | true=>
    subst hCb;go_wp2_with fail;go_ret;exact ⟨zaa (HR.out rfl),HB0.out⟩
  | false =>
    subst hCb;go_wp2_with fail
    go_loopw [7] (fun i wr=>∃ j:Nat,j<=l.length/\i = .int .i64 j/\(l.take j).any (eL 3 k)=false/\Below w.heap.size w wr/\Blk wr w.heap.size [.int .i64 op,.int .i64 n,.string mod,.string name,.slice aa l.length cap]) (fun i _=>l.length - (intOf i).toNat)
    case atStart=>exact ⟨0,Nat.zero_le _,rfl,rfl,HB0.out,HBx.out⟩
    case round=>
     obtain ⟨j,hj,rfl,hall,hb,hB⟩:=hrel;clear HBx HB0;clear x4 xz;have q4:=hB.cell 4 _ rfl;have qz:=hB.lt;have HB:Hid (Blk wr w.heap.size [.int .i64 op,.int .i64 n,.string mod,.string name,.slice aa l.length cap]):=hB;have HA:Hid ((l.take j).any (eL 3 k)=false):=hall;clear hall hB
     by_cases hlt:j<l.length
     . obtain ⟨b,off,a2,cp,rfl,hx⟩:=(HD.out.later hb).ex j hlt
       have hc0:=hx.c0;have hc1:=hx.c1;have hc2:=hx.c2;have hc3:=hx.c3;have hc4:=hx.c4;have hlb:=hx.lt;have HX:Hid (ExAt wr A b (off+j*5) l[j] a2 cp):=hx;clear hx;go_wp2_with fail;refine (HI.out l[j] a2 cp _ HX.out.args HX.out.wm HX.out.wna).mono ?_
       cases hr:eL 3 k l[j] with
       | true=>
         have HF:Hid (l.any (eL 3 k)=true):=zbw l _ j hlt hr;rintro e w3 ⟨rfl,hb3⟩;go_wp2_with fail;go_ret;exact ⟨zaa (HR.out (by rw [HF.out,Bool.or_true])),zab hb hb3⟩
       | false=>
         have HT:Hid ((l.take (j+1)).any (eL 3 k)=false):=by
          show _=_
          rw [za1 l _ j hlt,HA.out,hr];rfl
         rintro e w3 ⟨rfl,hb3⟩;go_wp2_with fail;go_roundw
         case rel=>exact ⟨j+1,by omega,by go_num,HT.out,zab hb hb3,HB.out.later hb3⟩
         case measure=>simp [intOf];omega
     . have HT:Hid (l.any (eL 3 k)=false):=zbq HA.out hlt
       go_wp2_with fail;go_ret;exact ⟨zaa (HR.out (by rw [HT.out];rfl)),hb⟩
end Go.Proofs.YtcekpobmbmnplaaGreatDoor

namespace Go.Proofs.YtcekpobmbmnplaaGreatDoor
set_option maxRecDepth 100000
set_option maxHeartbeats 8000000
open Go.RowKit Go.Maps
theorem zsx (A:Nat->Prop) (k:Nat) (op n:Int) (mod name:ByteArray) (l:List Ex) (aa:Option Addr) (cap:Nat) (deep:Int) (w:World) (hbd:l.length<=17592186044416) (hd1:1<=deep) (hd6:deep<=6)
 (HI:Hid (∀ (x:Ex) (aa:Option Addr) (cap:Nat) (w:World),DAt w A aa x.args.length (zaw x.args)->x.mod.size<=maxLen->x.name.size<=maxLen->
   Calls Tryz.prog 115 #[.agg #[.int .i64 x.op,.int .i64 x.n,.string x.mod,.string x.name,.slice aa x.args.length cap],.int .i64 3,.int .i64 (deep+1)] w fun e w'=>e = .returned (.bool (eL 3 k x))/\Below w.heap.size w w'))
 (HD:Hid (DAt w A aa l.length (zaw l))) (_HWm:Hid (mod.size<=maxLen)) (_HWn:Hid (name.size<=maxLen))
 (hR:inB op 3 5=false) (hm:mod.toList.isEmpty=true) (hn:name.toList.isEmpty=true) (ho:Hid (op=1)) :
 Calls Tryz.prog 115 #[.agg #[.int .i64 op,.int .i64 n,.string mod,.string name,.slice aa l.length cap],.int .i64 3,.int .i64 deep] w fun e w'=>e = .returned (.bool (eL 3 (k+1) (.mk op n mod name l)))/\Below w.heap.size w w':=by
 have HR:Hid (∀ {b:Bool},(zi0 3 (.mk op n mod name l)||l.any (eL 3 k))=b->b=eL 3 (k+1) (.mk op n mod name l)):=fun h=>by rw [← h];simp [eL,Ex.args]
 have HBx:Hid (Blk (w.alloc (.cells #[.int .i64 op,.int .i64 n,.string mod,.string name,.slice aa l.length cap] 76)) w.heap.size [.int .i64 op,.int .i64 n,.string mod,.string name,.slice aa l.length cap]):=Blk.new w _ _;have HB0:Hid (Below w.heap.size w (w.alloc (.cells #[.int .i64 op,.int .i64 n,.string mod,.string name,.slice aa l.length cap] 76))):=al1 _ _;have HC:Hid (zi0 3 (.mk op n mod name l)=((inB op 3 5 && !zd0 mod name)||(!inB op 3 5&&(!mod.toList.isEmpty || !name.toList.isEmpty))||(op == 1 && !inB n 0 1099511627775)||(op != 1&&n != 0)||(decide (0<=exN op)&&((l.length:Int) != exN op)))):=rfl;generalize hCC:zi0 3 (.mk op n mod name l)=C at HC HR;clear hCC;go_enter Tryz.func115,Tryz.ntmps115;go_upto_region 11 with fail;generalize hW0:w.alloc (.cells #[.int .i64 op,.int .i64 n,.string mod,.string name,.slice aa l.length cap] 76)=W0 at *
 clear hW0
 go_cut [89] (fun v wc=>v = .bool C/\Hid (Below W0.heap.size W0 wc))
 case first=>
  clear HD HI HR HB0;obtain ⟨x0,x1,x2,x3,x4,xz⟩:=HBx.out.c5;have HBz:Hid (Below W0.heap.size W0 W0.drew):=(Below.refl _ _).drew;generalize hq:exN op=q at *;have ho:=ho.out;have ho1:(op == 1)=true:=beq_iff_eq.2 ho
  have ho2:(op != 1)=false:=by simp [ho]
  have hq0:q=0:=by rw [← hq,ho];rfl
  clear ho;subst hq0
  cases hN:inB n 0 1099511627775 with
  | false=>
    have HE:Hid (C=true):=by show _=_;rw [HC.out];simp [hR,hm,hn,ho1,hN]
    go_quiet ((first | (go_at_call 128;exact Calls.quiet_of_same (za9 hR _)) | (go_at_call 129;exact Calls.quiet_of_same (zbl hq _)) | (go_at_call 44;exact Calls.quiet_of_same (zbm hN _))))
    go_wp2_with fail;go_meet;exact ⟨by rw [HE.out],za6 _ _⟩
  | true=>
    cases hl:((l.length:Int) != 0) with
    | false=>
      have HE:Hid (C=false):=by show _=_;rw [HC.out];simp [hR,hm,hn,ho1,ho2,hN,hl]
      go_quiet ((first | (go_at_call 128;exact Calls.quiet_of_same (za9 hR _)) | (go_at_call 129;exact Calls.quiet_of_same (zbl hq _)) | (go_at_call 44;exact Calls.quiet_of_same (zbm hN _))))
      go_wp2_with fail;go_meet;exact ⟨by rw [HE.out],za6 _ _⟩
    | true=>
      have HE:Hid (C=true):=by show _=_;rw [HC.out];simp [hR,hm,hn,ho1,ho2,hN,hl]
      go_quiet ((first | (go_at_call 128;exact Calls.quiet_of_same (za9 hR _)) | (go_at_call 129;exact Calls.quiet_of_same (zbl hq _)) | (go_at_call 44;exact Calls.quiet_of_same (zbm hN _))))
      go_wp2_with fail;go_meet;exact ⟨by rw [HE.out],za6 _ _⟩
 case rest=>
  obtain ⟨rfl,HBc⟩:=hcut;have HB0':Hid (Below w.heap.size w wc):=zab HB0.out HBc.out;have HBx':Hid (Blk wc w.heap.size [.int .i64 op,.int .i64 n,.string mod,.string name,.slice aa l.length cap]):=HBx.out.later HBc.out;clear HB0 HBx HBc HC;have HB0:=HB0';have HBx:=HBx';clear HB0' HBx';have x4:=HBx.out.cell 4 _ rfl;have xz:=HBx.out.lt
  cases hCb:C with
  | true=>
    subst hCb;go_wp2_with fail;go_ret;exact ⟨zaa (HR.out rfl),HB0.out⟩
  | false =>
    subst hCb;go_wp2_with fail
    go_loopw [7] (fun i wr=>∃ j:Nat,j<=l.length/\i = .int .i64 j/\(l.take j).any (eL 3 k)=false/\Below w.heap.size w wr/\Blk wr w.heap.size [.int .i64 op,.int .i64 n,.string mod,.string name,.slice aa l.length cap]) (fun i _=>l.length - (intOf i).toNat)
    case atStart=>exact ⟨0,Nat.zero_le _,rfl,rfl,HB0.out,HBx.out⟩
    case round=>
     obtain ⟨j,hj,rfl,hall,hb,hB⟩:=hrel;clear HBx HB0;clear x4 xz;have q4:=hB.cell 4 _ rfl;have qz:=hB.lt;have HB:Hid (Blk wr w.heap.size [.int .i64 op,.int .i64 n,.string mod,.string name,.slice aa l.length cap]):=hB;have HA:Hid ((l.take j).any (eL 3 k)=false):=hall;clear hall hB
     by_cases hlt:j<l.length
     . obtain ⟨b,off,a2,cp,rfl,hx⟩:=(HD.out.later hb).ex j hlt
       have hc0:=hx.c0;have hc1:=hx.c1;have hc2:=hx.c2;have hc3:=hx.c3;have hc4:=hx.c4;have hlb:=hx.lt;have HX:Hid (ExAt wr A b (off+j*5) l[j] a2 cp):=hx;clear hx;go_wp2_with fail;refine (HI.out l[j] a2 cp _ HX.out.args HX.out.wm HX.out.wna).mono ?_
       cases hr:eL 3 k l[j] with
       | true=>
         have HF:Hid (l.any (eL 3 k)=true):=zbw l _ j hlt hr;rintro e w3 ⟨rfl,hb3⟩;go_wp2_with fail;go_ret;exact ⟨zaa (HR.out (by rw [HF.out,Bool.or_true])),zab hb hb3⟩
       | false=>
         have HT:Hid ((l.take (j+1)).any (eL 3 k)=false):=by
          show _=_
          rw [za1 l _ j hlt,HA.out,hr];rfl
         rintro e w3 ⟨rfl,hb3⟩;go_wp2_with fail;go_roundw
         case rel=>exact ⟨j+1,by omega,by go_num,HT.out,zab hb hb3,HB.out.later hb3⟩
         case measure=>simp [intOf];omega
     . have HT:Hid (l.any (eL 3 k)=false):=zbq HA.out hlt
       go_wp2_with fail;go_ret;exact ⟨zaa (HR.out (by rw [HT.out];rfl)),hb⟩
end Go.Proofs.YtcekpobmbmnplaaGreatDoor

namespace Go.Proofs.YtcekpobmbmnplaaGreatDoor
set_option maxRecDepth 100000
set_option maxHeartbeats 8000000
open Go.RowKit Go.Maps
theorem zsy (A:Nat->Prop) (k:Nat) (op n:Int) (mod name:ByteArray) (l:List Ex) (aa:Option Addr) (cap:Nat) (deep:Int) (w:World) (hbd:l.length<=17592186044416) (hd1:1<=deep) (hd6:deep<=6)
 (HI:Hid (∀ (x:Ex) (aa:Option Addr) (cap:Nat) (w:World),DAt w A aa x.args.length (zaw x.args)->x.mod.size<=maxLen->x.name.size<=maxLen->
   Calls Tryz.prog 115 #[.agg #[.int .i64 x.op,.int .i64 x.n,.string x.mod,.string x.name,.slice aa x.args.length cap],.int .i64 3,.int .i64 (deep+1)] w fun e w'=>e = .returned (.bool (eL 3 k x))/\Below w.heap.size w w'))
 (HD:Hid (DAt w A aa l.length (zaw l))) (_HWm:Hid (mod.size<=maxLen)) (_HWn:Hid (name.size<=maxLen))
 (hR:inB op 3 5=false) (hm:mod.toList.isEmpty=true) (hn:name.toList.isEmpty=true) (ho:Hid (op≠1)) :
 Calls Tryz.prog 115 #[.agg #[.int .i64 op,.int .i64 n,.string mod,.string name,.slice aa l.length cap],.int .i64 3,.int .i64 deep] w fun e w'=>e = .returned (.bool (eL 3 (k+1) (.mk op n mod name l)))/\Below w.heap.size w w':=by
 have HR:Hid (∀ {b:Bool},(zi0 3 (.mk op n mod name l)||l.any (eL 3 k))=b->b=eL 3 (k+1) (.mk op n mod name l)):=fun h=>by rw [← h];simp [eL,Ex.args]
 have HBx:Hid (Blk (w.alloc (.cells #[.int .i64 op,.int .i64 n,.string mod,.string name,.slice aa l.length cap] 76)) w.heap.size [.int .i64 op,.int .i64 n,.string mod,.string name,.slice aa l.length cap]):=Blk.new w _ _;have HB0:Hid (Below w.heap.size w (w.alloc (.cells #[.int .i64 op,.int .i64 n,.string mod,.string name,.slice aa l.length cap] 76))):=al1 _ _;have HC:Hid (zi0 3 (.mk op n mod name l)=((inB op 3 5 && !zd0 mod name)||(!inB op 3 5&&(!mod.toList.isEmpty || !name.toList.isEmpty))||(op == 1 && !inB n 0 1099511627775)||(op != 1&&n != 0)||(decide (0<=exN op)&&((l.length:Int) != exN op)))):=rfl;generalize hCC:zi0 3 (.mk op n mod name l)=C at HC HR;clear hCC;go_enter Tryz.func115,Tryz.ntmps115;go_upto_region 11 with fail;generalize hW0:w.alloc (.cells #[.int .i64 op,.int .i64 n,.string mod,.string name,.slice aa l.length cap] 76)=W0 at *
 clear hW0
 go_cut [89] (fun v wc=>v = .bool C/\Hid (Below W0.heap.size W0 wc))
 case first=>
  clear HD HI HR HB0;obtain ⟨x0,x1,x2,x3,x4,xz⟩:=HBx.out.c5;have HBz:Hid (Below W0.heap.size W0 W0.drew):=(Below.refl _ _).drew;generalize hq:exN op=q at *;have ho:=ho.out;have ho1:(op == 1)=false:=beq_eq_false_iff_ne.2 ho
  have ho2:(op != 1)=true:=by simp [ho]
  clear ho
  cases hN:(n != 0) with
  | true=>
    have HE:Hid (C=true):=by show _=_;rw [HC.out];simp [hR,hm,hn,ho1,ho2,hN]
    go_quiet ((first | (go_at_call 128;exact Calls.quiet_of_same (za9 hR _)) | (go_at_call 129;exact Calls.quiet_of_same (zbl hq _)) | (go_at_call 44;exact Calls.quiet_of_same (zbm rfl _))))
    go_wp2_with fail;go_meet;exact ⟨by rw [HE.out],za6 _ _⟩
  | false=>
    cases h0:decide (0<=q) with
    | false=>
      have HE:Hid (C=false):=by show _=_;rw [HC.out];simp [hR,hm,hn,ho1,ho2,hN,h0]
      go_quiet ((first | (go_at_call 128;exact Calls.quiet_of_same (za9 hR _)) | (go_at_call 129;exact Calls.quiet_of_same (zbl hq _)) | (go_at_call 44;exact Calls.quiet_of_same (zbm rfl _))))
      go_wp2_with fail;go_meet;exact ⟨by rw [HE.out],za6 _ _⟩
    | true=>
      cases hl:((l.length:Int) != q) with
      | false=>
        have HE:Hid (C=false):=by show _=_;rw [HC.out];simp [hR,hm,hn,ho1,ho2,hN,h0,hl]
        go_quiet ((first | (go_at_call 128;exact Calls.quiet_of_same (za9 hR _)) | (go_at_call 129;exact Calls.quiet_of_same (zbl hq _)) | (go_at_call 44;exact Calls.quiet_of_same (zbm rfl _))))
        go_wp2_with fail;go_meet;exact ⟨by rw [HE.out],za6 _ _⟩
      | true=>
        have HE:Hid (C=true):=by show _=_;rw [HC.out];simp [hR,hm,hn,ho1,ho2,hN,h0,hl]
        go_quiet ((first | (go_at_call 128;exact Calls.quiet_of_same (za9 hR _)) | (go_at_call 129;exact Calls.quiet_of_same (zbl hq _)) | (go_at_call 44;exact Calls.quiet_of_same (zbm rfl _))))
        go_wp2_with fail;go_meet;exact ⟨by rw [HE.out],za6 _ _⟩
 case rest=>
  obtain ⟨rfl,HBc⟩:=hcut;have HB0':Hid (Below w.heap.size w wc):=zab HB0.out HBc.out;have HBx':Hid (Blk wc w.heap.size [.int .i64 op,.int .i64 n,.string mod,.string name,.slice aa l.length cap]):=HBx.out.later HBc.out;clear HB0 HBx HBc HC;have HB0:=HB0';have HBx:=HBx';clear HB0' HBx';have x4:=HBx.out.cell 4 _ rfl;have xz:=HBx.out.lt
  cases hCb:C with
  | true=>
    subst hCb;go_wp2_with fail;go_ret;exact ⟨zaa (HR.out rfl),HB0.out⟩
  | false =>
    subst hCb;go_wp2_with fail
    go_loopw [7] (fun i wr=>∃ j:Nat,j<=l.length/\i = .int .i64 j/\(l.take j).any (eL 3 k)=false/\Below w.heap.size w wr/\Blk wr w.heap.size [.int .i64 op,.int .i64 n,.string mod,.string name,.slice aa l.length cap]) (fun i _=>l.length - (intOf i).toNat)
    case atStart=>exact ⟨0,Nat.zero_le _,rfl,rfl,HB0.out,HBx.out⟩
    case round=>
     obtain ⟨j,hj,rfl,hall,hb,hB⟩:=hrel;clear HBx HB0;clear x4 xz;have q4:=hB.cell 4 _ rfl;have qz:=hB.lt;have HB:Hid (Blk wr w.heap.size [.int .i64 op,.int .i64 n,.string mod,.string name,.slice aa l.length cap]):=hB;have HA:Hid ((l.take j).any (eL 3 k)=false):=hall;clear hall hB
     by_cases hlt:j<l.length
     . obtain ⟨b,off,a2,cp,rfl,hx⟩:=(HD.out.later hb).ex j hlt
       have hc0:=hx.c0;have hc1:=hx.c1;have hc2:=hx.c2;have hc3:=hx.c3;have hc4:=hx.c4;have hlb:=hx.lt;have HX:Hid (ExAt wr A b (off+j*5) l[j] a2 cp):=hx;clear hx;go_wp2_with fail;refine (HI.out l[j] a2 cp _ HX.out.args HX.out.wm HX.out.wna).mono ?_
       cases hr:eL 3 k l[j] with
       | true=>
         have HF:Hid (l.any (eL 3 k)=true):=zbw l _ j hlt hr;rintro e w3 ⟨rfl,hb3⟩;go_wp2_with fail;go_ret;exact ⟨zaa (HR.out (by rw [HF.out,Bool.or_true])),zab hb hb3⟩
       | false=>
         have HT:Hid ((l.take (j+1)).any (eL 3 k)=false):=by
          show _=_
          rw [za1 l _ j hlt,HA.out,hr];rfl
         rintro e w3 ⟨rfl,hb3⟩;go_wp2_with fail;go_roundw
         case rel=>exact ⟨j+1,by omega,by go_num,HT.out,zab hb hb3,HB.out.later hb3⟩
         case measure=>simp [intOf];omega
     . have HT:Hid (l.any (eL 3 k)=false):=zbq HA.out hlt
       go_wp2_with fail;go_ret;exact ⟨zaa (HR.out (by rw [HT.out];rfl)),hb⟩
end Go.Proofs.YtcekpobmbmnplaaGreatDoor
