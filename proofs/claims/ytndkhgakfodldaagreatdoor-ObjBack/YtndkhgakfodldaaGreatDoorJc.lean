/-
  Package obj: a fix.
-/
import Derived.Test.YtndkhgakfodldaaGreatDoorNm
import Derived.Test.YtndkhgakfodldaaGreatDoorUs
namespace Go.Proofs.YtndkhgakfodldaaGreatDoor
set_option maxRecDepth 100000
set_option maxHeartbeats 3200000
open Go.RowKit Go.Maps Go.WideMaps
set_option linter.unusedSimpArgs false
set_option linter.unusedVariables false
theorem fixH1 (o:Ob) (x1:Option Addr) (y1:Nat) (x3:Option Addr) (y3:Nat) (x4:Option Addr) (y4:Nat) (x5:Option Addr) (y5:Nat) (j:Nat) (m:Int) (w:World) (hj:j<o.code.length) (hC:DAt w Tt x3 o.code.length (gisD o.code)) (hu:o.uses.length<=17592186044416) :
 Calls Tryz.prog 133 #[.agg #[.string o.name,.slice x1 o.uses.length y1,.int .i64 o.data,.slice x3 o.code.length y3,.slice x4 o.fixes.length y4,.slice x5 o.entries.length y5,.int .i64 o.main],.agg #[.int .i64 (j:Int),.int .i64 1,.int .i64 m]] w fun e w'=>e = .returned (.bool (okF o.code[j].a (o.code.length:Int) m 0))/\Below w.heap.size w w':=by
 have hbd:=hC.bound;obtain ⟨b,off,rfl,hx⟩:=hC.gi j hj;obtain ⟨hbl,_,z1,_,_,_,_⟩:=hx;generalize o.code[j].a=a at *;clear hC
 by_cases t0:0<=a
 case neg=>
  have HR:Hid (okF a (o.code.length:Int) m 0=false):=by show _=_;simp [okF,t0]
  have n0:a<0:=by omega
  clear t0;go_enter Tryz.func133,Tryz.ntmps133;go_wp2_with fail
  go_region
  go_wp2_with fail;go_ret;exact ⟨ret_bool (by first | exact HR.out.symm | (rw [HR.out]<;>first | (simp;omega) | (simp [*];done))),(by first | exact bl2 _ _ _ | exact (bl2 _ _ _).drew | exact thenB (bAdrew _ _) (al1 _ _) | exact thenB (al1 _ _) (bAdrew _ _))⟩
 by_cases t1:a<=(o.code.length:Int)
 case neg=>
  have HR:Hid (okF a (o.code.length:Int) m 0=false):=by show _=_;simp [okF,t1]
  have n1:(o.code.length:Int)<a:=by omega
  clear t1;go_enter Tryz.func133,Tryz.ntmps133;go_wp2_with fail
  go_region
  go_wp2_with fail;go_ret;exact ⟨ret_bool (by first | exact HR.out.symm | (rw [HR.out]<;>first | (simp;omega) | (simp [*];done))),(by first | exact bl2 _ _ _ | exact (bl2 _ _ _).drew | exact thenB (bAdrew _ _) (al1 _ _) | exact thenB (al1 _ _) (bAdrew _ _))⟩
 by_cases t2:0<=m
 case neg=>
  have HR:Hid (okF a (o.code.length:Int) m 0=false):=by show _=_;simp [okF,t2]
  have n2:m<0:=by omega
  clear t2;go_enter Tryz.func133,Tryz.ntmps133;go_wp2_with fail
  go_region
  go_wp2_with fail;go_ret;exact ⟨ret_bool (by first | exact HR.out.symm | (rw [HR.out]<;>first | (simp;omega) | (simp [*];done))),(by first | exact bl2 _ _ _ | exact (bl2 _ _ _).drew | exact thenB (bAdrew _ _) (al1 _ _) | exact thenB (al1 _ _) (bAdrew _ _))⟩
 have HR:Hid (okF a (o.code.length:Int) m 0=decide (m<=0)):=by show _=_;simp [okF,t0,t1,t2]
 go_enter Tryz.func133,Tryz.ntmps133;go_wp2_with fail
 go_region
 go_wp2_with fail;go_ret;exact ⟨ret_bool (by first | exact HR.out.symm | (rw [HR.out]<;>first | (simp;omega) | (simp [*];done))),(by first | exact bl2 _ _ _ | exact (bl2 _ _ _).drew | exact thenB (bAdrew _ _) (al1 _ _) | exact thenB (al1 _ _) (bAdrew _ _))⟩
theorem fixH2 (o:Ob) (x1:Option Addr) (y1:Nat) (x3:Option Addr) (y3:Nat) (x4:Option Addr) (y4:Nat) (x5:Option Addr) (y5:Nat) (j:Nat) (m:Int) (w:World) (hj:j<o.code.length) (hC:DAt w Tt x3 o.code.length (gisD o.code)) (hu:o.uses.length<=17592186044416) :
 Calls Tryz.prog 133 #[.agg #[.string o.name,.slice x1 o.uses.length y1,.int .i64 o.data,.slice x3 o.code.length y3,.slice x4 o.fixes.length y4,.slice x5 o.entries.length y5,.int .i64 o.main],.agg #[.int .i64 (j:Int),.int .i64 2,.int .i64 m]] w fun e w'=>e = .returned (.bool (okF o.code[j].a 2048 m (o.uses.length:Int)))/\Below w.heap.size w w':=by
 have hbd:=hC.bound;obtain ⟨b,off,rfl,hx⟩:=hC.gi j hj;obtain ⟨hbl,_,z1,_,_,_,_⟩:=hx;generalize o.code[j].a=a at *;clear hC
 by_cases t0:0<=a
 case neg=>
  have HR:Hid (okF a 2048 m (o.uses.length:Int)=false):=by show _=_;simp [okF,t0]
  have n0:a<0:=by omega
  clear t0;go_enter Tryz.func133,Tryz.ntmps133;go_wp2_with fail
  go_region
  go_wp2_with fail;go_ret;exact ⟨ret_bool (by first | exact HR.out.symm | (rw [HR.out]<;>first | (simp;omega) | (simp [*];done))),(by first | exact bl2 _ _ _ | exact (bl2 _ _ _).drew | exact thenB (bAdrew _ _) (al1 _ _) | exact thenB (al1 _ _) (bAdrew _ _))⟩
 by_cases t1:a<=2048
 case neg=>
  have HR:Hid (okF a 2048 m (o.uses.length:Int)=false):=by show _=_;simp [okF,t1]
  have n1:2048<a:=by omega
  clear t1;go_enter Tryz.func133,Tryz.ntmps133;go_wp2_with fail
  go_region
  go_wp2_with fail;go_ret;exact ⟨ret_bool (by first | exact HR.out.symm | (rw [HR.out]<;>first | (simp;omega) | (simp [*];done))),(by first | exact bl2 _ _ _ | exact (bl2 _ _ _).drew | exact thenB (bAdrew _ _) (al1 _ _) | exact thenB (al1 _ _) (bAdrew _ _))⟩
 by_cases t2:0<=m
 case neg=>
  have HR:Hid (okF a 2048 m (o.uses.length:Int)=false):=by show _=_;simp [okF,t2]
  have n2:m<0:=by omega
  clear t2;go_enter Tryz.func133,Tryz.ntmps133;go_wp2_with fail
  go_region
  go_wp2_with fail;go_ret;exact ⟨ret_bool (by first | exact HR.out.symm | (rw [HR.out]<;>first | (simp;omega) | (simp [*];done))),(by first | exact bl2 _ _ _ | exact (bl2 _ _ _).drew | exact thenB (bAdrew _ _) (al1 _ _) | exact thenB (al1 _ _) (bAdrew _ _))⟩
 have HR:Hid (okF a 2048 m (o.uses.length:Int)=decide (m<=(o.uses.length:Int))):=by show _=_;simp [okF,t0,t1,t2]
 go_enter Tryz.func133,Tryz.ntmps133;go_wp2_with fail
 go_region
 go_wp2_with fail;go_ret;exact ⟨ret_bool (by first | exact HR.out.symm | (rw [HR.out]<;>first | (simp;omega) | (simp [*];done))),(by first | exact bl2 _ _ _ | exact (bl2 _ _ _).drew | exact thenB (bAdrew _ _) (al1 _ _) | exact thenB (al1 _ _) (bAdrew _ _))⟩
theorem fixH3 (o:Ob) (x1:Option Addr) (y1:Nat) (x3:Option Addr) (y3:Nat) (x4:Option Addr) (y4:Nat) (x5:Option Addr) (y5:Nat) (j:Nat) (m:Int) (w:World) (hj:j<o.code.length) (hC:DAt w Tt x3 o.code.length (gisD o.code)) (hu:o.uses.length<=17592186044416) :
 Calls Tryz.prog 133 #[.agg #[.string o.name,.slice x1 o.uses.length y1,.int .i64 o.data,.slice x3 o.code.length y3,.slice x4 o.fixes.length y4,.slice x5 o.entries.length y5,.int .i64 o.main],.agg #[.int .i64 (j:Int),.int .i64 3,.int .i64 m]] w fun e w'=>e = .returned (.bool (okF o.code[j].a 2048 m (o.uses.length:Int)))/\Below w.heap.size w w':=by
 have hbd:=hC.bound;obtain ⟨b,off,rfl,hx⟩:=hC.gi j hj;obtain ⟨hbl,_,z1,_,_,_,_⟩:=hx;generalize o.code[j].a=a at *;clear hC
 by_cases t0:0<=a
 case neg=>
  have HR:Hid (okF a 2048 m (o.uses.length:Int)=false):=by show _=_;simp [okF,t0]
  have n0:a<0:=by omega
  clear t0;go_enter Tryz.func133,Tryz.ntmps133;go_wp2_with fail
  go_region
  go_wp2_with fail;go_ret;exact ⟨ret_bool (by first | exact HR.out.symm | (rw [HR.out]<;>first | (simp;omega) | (simp [*];done))),(by first | exact bl2 _ _ _ | exact (bl2 _ _ _).drew | exact thenB (bAdrew _ _) (al1 _ _) | exact thenB (al1 _ _) (bAdrew _ _))⟩
 by_cases t1:a<=2048
 case neg=>
  have HR:Hid (okF a 2048 m (o.uses.length:Int)=false):=by show _=_;simp [okF,t1]
  have n1:2048<a:=by omega
  clear t1;go_enter Tryz.func133,Tryz.ntmps133;go_wp2_with fail
  go_region
  go_wp2_with fail;go_ret;exact ⟨ret_bool (by first | exact HR.out.symm | (rw [HR.out]<;>first | (simp;omega) | (simp [*];done))),(by first | exact bl2 _ _ _ | exact (bl2 _ _ _).drew | exact thenB (bAdrew _ _) (al1 _ _) | exact thenB (al1 _ _) (bAdrew _ _))⟩
 by_cases t2:0<=m
 case neg=>
  have HR:Hid (okF a 2048 m (o.uses.length:Int)=false):=by show _=_;simp [okF,t2]
  have n2:m<0:=by omega
  clear t2;go_enter Tryz.func133,Tryz.ntmps133;go_wp2_with fail
  go_region
  go_wp2_with fail;go_ret;exact ⟨ret_bool (by first | exact HR.out.symm | (rw [HR.out]<;>first | (simp;omega) | (simp [*];done))),(by first | exact bl2 _ _ _ | exact (bl2 _ _ _).drew | exact thenB (bAdrew _ _) (al1 _ _) | exact thenB (al1 _ _) (bAdrew _ _))⟩
 have HR:Hid (okF a 2048 m (o.uses.length:Int)=decide (m<=(o.uses.length:Int))):=by show _=_;simp [okF,t0,t1,t2]
 go_enter Tryz.func133,Tryz.ntmps133;go_wp2_with fail
 go_region
 go_wp2_with fail;go_ret;exact ⟨ret_bool (by first | exact HR.out.symm | (rw [HR.out]<;>first | (simp;omega) | (simp [*];done))),(by first | exact bl2 _ _ _ | exact (bl2 _ _ _).drew | exact thenB (bAdrew _ _) (al1 _ _) | exact thenB (al1 _ _) (bAdrew _ _))⟩
theorem fixH0 (o:Ob) (x1:Option Addr) (y1:Nat) (x3:Option Addr) (y3:Nat) (x4:Option Addr) (y4:Nat) (x5:Option Addr) (y5:Nat) (at_ kind m:Int) (w:World) (h1:kind≠1) (h2:kind≠2) (h3:kind≠3) (hu:o.uses.length<=17592186044416) :
 Calls Tryz.prog 133 #[.agg #[.string o.name,.slice x1 o.uses.length y1,.int .i64 o.data,.slice x3 o.code.length y3,.slice x4 o.fixes.length y4,.slice x5 o.entries.length y5,.int .i64 o.main],.agg #[.int .i64 at_,.int .i64 kind,.int .i64 m]] w fun e w'=>e = .returned (.bool false)/\Below w.heap.size w w':=by
 go_enter Tryz.func133,Tryz.ntmps133;go_wp2_with fail
 go_region
 go_wp2_with fail;go_ret;exact ⟨rfl,(by first | exact bl2 _ _ _ | exact (bl2 _ _ _).drew | exact thenB (bAdrew _ _) (al1 _ _) | exact thenB (al1 _ _) (bAdrew _ _))⟩
theorem fixHolds_any (o:Ob) (x1:Option Addr) (y1:Nat) (x3:Option Addr) (y3:Nat) (x4:Option Addr) (y4:Nat) (x5:Option Addr) (y5:Nat) (f:Gf) (w:World) (hp:placeB o f.at_=true) (hC:DAt w Tt x3 o.code.length (gisD o.code)) (hu:o.uses.length<=17592186044416) :
 Calls Tryz.prog 133 #[.agg #[.string o.name,.slice x1 o.uses.length y1,.int .i64 o.data,.slice x3 o.code.length y3,.slice x4 o.fixes.length y4,.slice x5 o.entries.length y5,.int .i64 o.main],.agg #[.int .i64 f.at_,.int .i64 f.kind,.int .i64 f.m]] w fun e w'=>e = .returned (.bool (fixB o f))/\Below w.heap.size w w':=by
 obtain ⟨at_,kind,m⟩:=f;have hp':=of_decide_eq_true hp;simp only at hp'
 obtain ⟨j,rfl⟩:∃ j:Nat,at_=j:=⟨at_.toNat,by omega⟩
 have hj:j<o.code.length:=by omega
 have ha:aAt o (j:Int)=o.code[j].a:=by unfold aAt;rw [Int.toNat_natCast,List.getElem?_eq_getElem hj]
 unfold fixB;simp only [ha]
 by_cases e1:kind=1
 . subst e1;exact fixH1 o x1 y1 x3 y3 x4 y4 x5 y5 j m w hj hC hu
 by_cases e2:kind=2
 . subst e2;exact fixH2 o x1 y1 x3 y3 x4 y4 x5 y5 j m w hj hC hu
 by_cases e3:kind=3
 . subst e3;exact fixH3 o x1 y1 x3 y3 x4 y4 x5 y5 j m w hj hC hu
 . rw [if_neg e1,if_neg (by omega)]
   exact fixH0 o x1 y1 x3 y3 x4 y4 x5 y5 j kind m w e1 e2 e3 hu
end Go.Proofs.YtndkhgakfodldaaGreatDoor

namespace Go.Proofs.YtndkhgakfodldaaGreatDoor
set_option maxRecDepth 100000
set_option maxHeartbeats 3200000
open Go.RowKit Go.Maps Go.WideMaps
set_option linter.unusedSimpArgs false
set_option linter.unusedVariables false
theorem fixesB_eq (o:Ob):fixesB o=allTo o.fixes.length (fixAt o):=rfl
theorem fixesHold_any (o:Ob) (x1:Option Addr) (y1:Nat) (x3:Option Addr) (y3:Nat) (x4:Option Addr) (y4:Nat) (x5:Option Addr) (y5:Nat) (w:World) (hO:OvAt w o x1 x3 x4 x5) :
 Calls Tryz.prog 84 #[.agg #[.string o.name,.slice x1 o.uses.length y1,.int .i64 o.data,.slice x3 o.code.length y3,.slice x4 o.fixes.length y4,.slice x5 o.entries.length y5,.int .i64 o.main]] w fun e w'=>e = .returned (.bool (fixesB o))/\Below w.heap.size w w':=by
 have hb4:=hO.fixes.bound;have HO:=hid hO;have HP:=hid (fun (x:Int) (W:World)=>oPlace_any o o.name x1 o.uses.length y1 o.data x3 y3 x4 o.fixes.length y4 x5 o.entries.length y5 o.main x W hO.code.bound);have HH:=hid (fun (f:Gf) (W:World) (hW:Below w.heap.size w W) (hp:placeB o f.at_=true)=>fixHolds_any o x1 y1 x3 y3 x4 y4 x5 y5 f W hp (hO.code.later hW) hO.uses.bound);clear hO;go_enter Tryz.func84,Tryz.ntmps84;go_wp2_with fail
 go_loopw [3,9] (fun v i wr=>∃ j:Nat,j<=o.fixes.length/\i = .int .i64 j/\v = .int .i64 (lastAt o j)/\(∀ k,k<j->fixAt o k=true)/\Below w.heap.size w wr/\wr.heap[w.heap.size]? = some (.cells #[.string o.name,.slice x1 o.uses.length y1,.int .i64 o.data,.slice x3 o.code.length y3,.slice x4 o.fixes.length y4,.slice x5 o.entries.length y5,.int .i64 o.main] 62)) (fun _ i _=>o.fixes.length - (intOf i).toNat)
 case atStart=>exact ⟨0,Nat.zero_le _,rfl,rfl,fun k hk=>absurd hk (Nat.not_lt_zero k),al1 _ _,heap_newP w (.cells #[.string o.name,.slice x1 o.uses.length y1,.int .i64 o.data,.slice x3 o.code.length y3,.slice x4 o.fixes.length y4,.slice x5 o.entries.length y5,.int .i64 o.main] 62)⟩
 case round=>
  obtain ⟨j,hj,rfl,rfl,hall,hb,hB⟩:=hrel;obtain ⟨q0,q1,q2,q3,q4,q5,q6,_⟩:=cells7 hB;have qz:=lt_of_heap hB;have HB:=hid hb;have HX:=hid hB;have HL:=hid hall;clear hall hB hb
  by_cases hlt:j<o.fixes.length
  . obtain ⟨b,off,rfl,hx⟩:=(HO.out.later HB.out).fixes.gf j hlt
    have HE:Hid (fixAt o j=(decide (lastAt o j<o.fixes[j].at_)&&(placeB o o.fixes[j].at_&&fixB o o.fixes[j]))):=by show _=_;unfold fixAt;rw [List.getElem?_eq_getElem hlt]
    have HS:Hid (lastAt o (j+1)=o.fixes[j].at_):=by show (match o.fixes[j]? with | some f=>f.at_ | none=>-1)=_;rw [List.getElem?_eq_getElem hlt]
    have HF:=hid (fun (h:fixAt o j=false)=>(by rw [fixesB_eq,allTo_false hlt h]:fixesB o=false));have HT:=hid (fun (h:fixAt o j=true)=>upto_succ HL.out (h));obtain ⟨hbl,p0,p1,p2,_,_,_⟩:=hx;generalize o.fixes[j]=f at *;generalize lastAt o j=la at *
    by_cases t1:la<f.at_
    . have HX2:=hid (heap_old (o:=.cells #[.int .i64 f.at_,.int .i64 f.kind,.int .i64 f.m] 67) HX.out)
      have HY2:=hid (heap_newP wr (.cells #[.int .i64 f.at_,.int .i64 f.kind,.int .i64 f.m] 67));have HB2:=hid (thenB HB.out (al1 wr (.cells #[.int .i64 f.at_,.int .i64 f.kind,.int .i64 f.m] 67)))
      have hz2:wr.heap.size<(wr.alloc (.cells #[.int .i64 f.at_,.int .i64 f.kind,.int .i64 f.m] 67)).heap.size:=by simp
      have hz1:w.heap.size<(wr.alloc (.cells #[.int .i64 f.at_,.int .i64 f.kind,.int .i64 f.m] 67)).heap.size:=by simp;omega
      have HZ1:=hid hz1;have HZ2:=hid hz2;clear hz1 hz2;go_wp2_with fail;refine (HP.out f.at_ _).mono ?_;rintro e w1 ⟨rfl,hb1⟩;have HB1:=hid (thenB HB2.out hb1);have HX1:=hid ((hb1.block _ HZ1.out).trans HX2.out);have HY1:=hid ((hb1.block _ HZ2.out).trans HY2.out);clear q0 q1 q2 q3 q4 q5 q6 qz hb1 p0 p1 p2 hbl;obtain ⟨q0,q1,q2,q3,q4,q5,q6,_⟩:=cells7 HX1.out;have qz:=lt_of_heap HX1.out;obtain ⟨p0,p1,p2,_⟩:=cellsOf3 HY1.out;have pz:=lt_of_heap HY1.out
      cases hp:placeB o f.at_ with
      | false=>
        have HR:=hid (HF.out (by rw [HE.out,hp];simp));go_wp2_with fail;go_ret;exact ⟨ret_bool (by first | exact HR.out.symm | (rw [HR.out]<;>first | (simp;omega) | (simp [*];done))),HB1.out⟩
      | true=>
        have HC:=hid (HH.out f w1 HB1.out hp);go_wp2_with fail;refine HC.out.mono ?_;rintro e w2 ⟨rfl,hb2⟩;have HB3:=hid (thenB HB1.out hb2);have HX3:=hid ((hb2.block _ qz).trans HX1.out);have HY3:=hid ((hb2.block _ pz).trans HY1.out);clear q0 q1 q2 q3 q4 q5 q6 qz p0 p1 p2 pz hb2;obtain ⟨p0,p1,p2,_⟩:=cellsOf3 HY3.out;have pz:=lt_of_heap HY3.out
        cases hf:fixB o f with
        | false=>
          have HR:=hid (HF.out (by rw [HE.out,hf];simp));go_wp2_with fail;go_ret;exact ⟨ret_bool (by first | exact HR.out.symm | (rw [HR.out]<;>first | (simp;omega) | (simp [*];done))),HB3.out⟩
        | true=>
          have HT':=hid (HT.out (by rw [HE.out,hf,hp,decide_eq_true t1];rfl));go_wp2_with fail;go_roundw
          case rel=>exact ⟨j+1,by omega,by go_num,by rw [HS.out],HT'.out,HB3.out,HX3.out⟩
          case measure=>simp [intOf];omega
    . have HR:=hid (HF.out (by rw [HE.out,decide_eq_false t1];rfl))
      have t1':f.at_<=la:=by omega
      clear t1;go_wp2_with fail;go_ret;exact ⟨ret_bool (by first | exact HR.out.symm | (rw [HR.out]<;>first | (simp;omega) | (simp [*];done))),thenB HB.out (al1 _ _)⟩
  . obtain rfl:j=o.fixes.length:=by omega
    have HR:Hid (fixesB o=true):=by show _=_;rw [fixesB_eq,allTo_true.2 HL.out]
    go_wp2_with fail;go_ret;exact ⟨ret_bool (by first | exact HR.out.symm | (rw [HR.out]<;>first | (simp;omega) | (simp [*];done))),HB.out⟩
end Go.Proofs.YtndkhgakfodldaaGreatDoor

namespace Go.Proofs.YtndkhgakfodldaaGreatDoor
set_option maxRecDepth 100000
set_option maxHeartbeats 1600000
open Go.RowKit Go.Maps Go.WideMaps
set_option linter.unusedSimpArgs false
set_option linter.unusedVariables false
theorem objCheck_any (o:Ob) (x1:Option Addr) (y1:Nat) (x3:Option Addr) (y3:Nat) (x4:Option Addr) (y4:Nat) (x5:Option Addr) (y5:Nat) (w:World) (hO:OvAt w o x1 x3 x4 x5) (hcp:o.uses.length<=y1) :
 Calls Tryz.prog 32 #[.agg #[.string o.name,.slice x1 o.uses.length y1,.int .i64 o.data,.slice x3 o.code.length y3,.slice x4 o.fixes.length y4,.slice x5 o.entries.length y5,.int .i64 o.main]] w fun e w'=>e = .returned (.int .i64 (oChk o))/\Below w.heap.size w w':=by
 have HQ:Hid (oChk o=if oMany o=true then 2 else if (namesB o&&(codeB o&&fixesB o))=true then 0 else 1):=rfl;have HM:=hid (oMany_any o o.name x1 y1 o.data x3 y3 x4 o.fixes.length y4 x5 y5 o.main (w.alloc (.cells #[.string o.name,.slice x1 o.uses.length y1,.int .i64 o.data,.slice x3 o.code.length y3,.slice x4 o.fixes.length y4,.slice x5 o.entries.length y5,.int .i64 o.main] 62)) hO.uses.bound hO.code.bound hO.entries.bound);have HN:=hid (fun (W:World) (hW:Below w.heap.size w W) (h3:o.uses.length<=3)=>namesHold_any o x1 y1 x3 y3 x4 y4 x5 y5 W (hO.later hW) h3 hcp);have HC:=hid (fun (W:World) (hW:Below w.heap.size w W)=>codeHolds_any o x1 y1 x3 y3 x4 y4 x5 y5 W (hO.later hW));have HF:=hid (fun (W:World) (hW:Below w.heap.size w W)=>fixesHold_any o x1 y1 x3 y3 x4 y4 x5 y5 W (hO.later hW));clear hO;go_enter Tryz.func32,Tryz.ntmps32;go_wp2_with fail
 refine HM.out.mono ?_;rintro e w1 ⟨rfl,hb1⟩;have HB1:=hid (thenB (al1 w _) hb1);have HX1:=hid ((hb1.block _ (by simp)).trans (heap_newP w (.cells #[.string o.name,.slice x1 o.uses.length y1,.int .i64 o.data,.slice x3 o.code.length y3,.slice x4 o.fixes.length y4,.slice x5 o.entries.length y5,.int .i64 o.main] 62)));clear hb1;obtain ⟨q0,q1,q2,q3,q4,q5,q6,_⟩:=cells7 HX1.out;have qz:=lt_of_heap HX1.out
 cases hm:oMany o with
 | true=>
   have HR:Hid (oChk o=2):=by show _=_;rw [HQ.out,hm];rfl
   go_wp2_with fail;go_ret;exact ⟨by rw [HR.out];first | done | rfl,HB1.out⟩
 | false=>
 have h3:o.uses.length<=3:=by
  unfold oMany at hm;simp only [Bool.or_eq_false_iff,decide_eq_false_iff_not] at hm;omega
 have HR:Hid (oChk o=if (namesB o&&(codeB o&&fixesB o))=true then 0 else 1):=by show _=_;rw [HQ.out,hm];rfl
 have HN':=hid (HN.out w1 HB1.out h3);clear hm h3 HQ;go_wp2_with fail;refine HN'.out.mono ?_;rintro e w2 ⟨rfl,hb2⟩;have HB2:=hid (thenB HB1.out hb2);have HX2:=hid ((hb2.block _ qz).trans HX1.out);have HC':=hid (HC.out w2 HB2.out);clear hb2 q0 q1 q2 q3 q4 q5 q6 qz;obtain ⟨q0,q1,q2,q3,q4,q5,q6,_⟩:=cells7 HX2.out;have qz:=lt_of_heap HX2.out
 cases hn:namesB o with
 | false=>
   have HR':Hid (oChk o=1):=by show _=_;rw [HR.out,hn];rfl
   go_wp2_with fail;go_ret;exact ⟨by rw [HR'.out];first | done | rfl,HB2.out⟩
 | true=>
 have HR2:Hid (oChk o=if (codeB o&&fixesB o)=true then 0 else 1):=by show _=_;rw [HR.out,hn];rfl
 go_wp2_with fail;refine HC'.out.mono ?_;rintro e w3 ⟨rfl,hb3⟩;have HB3:=hid (thenB HB2.out hb3);have HX3:=hid ((hb3.block _ qz).trans HX2.out);have HF':=hid (HF.out w3 HB3.out);clear hb3 q0 q1 q2 q3 q4 q5 q6 qz;obtain ⟨q0,q1,q2,q3,q4,q5,q6,_⟩:=cells7 HX3.out;have qz:=lt_of_heap HX3.out
 cases hc:codeB o with
 | false=>
   have HR':Hid (oChk o=1):=by show _=_;rw [HR2.out,hc];rfl
   go_wp2_with fail;go_ret;exact ⟨by rw [HR'.out];first | done | rfl,HB3.out⟩
 | true=>
 go_wp2_with fail;refine HF'.out.mono ?_;rintro e w4 ⟨rfl,hb4⟩;have HB4:=hid (thenB HB3.out hb4);clear hb4 q0 q1 q2 q3 q4 q5 q6 qz
 cases hf:fixesB o with
 | false=>
   have HR':Hid (oChk o=1):=by show _=_;rw [HR2.out,hc,hf];rfl
   go_wp2_with fail;go_ret;exact ⟨by rw [HR'.out];first | done | rfl,HB4.out⟩
 | true=>
   have HR':Hid (oChk o=0):=by show _=_;rw [HR2.out,hc,hf];rfl
   go_wp2_with fail;go_ret;exact ⟨by rw [HR'.out];first | done | rfl,HB4.out⟩
end Go.Proofs.YtndkhgakfodldaaGreatDoor

namespace Go.Proofs.YtndkhgakfodldaaGreatDoor
set_option maxRecDepth 100000
set_option maxHeartbeats 6400000
open Go.RowKit Go.Shelf
set_option linter.unusedSimpArgs false
set_option linter.unusedVariables false
def objB (o:Ob):List UInt8:=Fx.textB o.name++(listB Fx.textB o.uses++(Fx.numB o.data++(listB instrB o.code++(listB fixBy o.fixes++(listB Fx.numB o.entries++Fx.numB o.main)))))
def wrO (o:Ob):List UInt8 × Int:=if oChk o=0 then (if 32768<(objB o).length then ([],2) else (objB o,0)) else ([],oChk o)
theorem row_conv {B:Nat} {w:World} {u:Value} {l:List UInt8} (h:Fx.Row B w u l) (hl:l≠[]):(convert 140 9 u).run Tryz.prog w = .ok (.string (Fx.strOf l)) w:=by
 rcases h.2 with ⟨hv,h0⟩ | ⟨g,cap,cur,hv,hB,hg,_⟩
 . exact absurd (List.eq_nil_of_length_eq_zero h0) hl
 . rw [hv]
   refine Fx.conv_at w g cap l (fun j hj=>?_);have:=h.cells (g:=g) (by rw [hv];rfl) j (Fx.byteV l[j]) (by simp [Fx.bytesV,hj]);rw [show (⟨g,0,none⟩:Addr).add j=⟨g,j,none⟩ from by unfold Addr.add;split<;>simp_all] at this;exact this
theorem row_slice {B:Nat} {w:World} {u:Value} {l:List UInt8} (h:Fx.Row B w u l):∃ a cap,u = .slice a l.length cap:=by
 obtain ⟨a,cap,hv,_⟩:=ownsRow_form h;exact ⟨a,cap,hv⟩
theorem oChk_parts {o:Ob} (h:oChk o=0):oMany o=false/\namesB o=true/\codeB o=true/\fixesB o=true:=by
 unfold oChk at h
 split at h
 . cases h
 . rename_i h1
   split at h
   . rename_i h2
     simp only [Bool.and_eq_true] at h2;exact ⟨by simpa using h1,h2⟩
   . cases h
theorem nameB_size {s:ByteArray} (h:Lx.nameB s.data.toList=true):s.size<=8:=by
 unfold Lx.nameB at h;simp only [Bool.and_eq_true,decide_eq_true_eq] at h;have:=h.1.2;rw [Lx.len_toList] at this;exact this
theorem fix_ge {o:Ob} (h:fixesB o=true):∀ j (hj:j<o.fixes.length),(j:Int)<=o.fixes[j].at_/\o.fixes[j].at_<o.code.length:=by
 intro j
 induction j with
 | zero=>
   intro hj;have:=allTo_true.1 h 0 hj;unfold fixAt at this;rw [List.getElem?_eq_getElem hj] at this;simp only [Bool.and_eq_true,placeB,decide_eq_true_eq] at this;exact ⟨this.2.1.1,this.2.1.2⟩
 | succ j ih=>
   intro hj;have h1:=ih (by omega);have:=allTo_true.1 h (j+1) hj;unfold fixAt at this;rw [List.getElem?_eq_getElem hj] at this;simp only [Bool.and_eq_true,placeB,decide_eq_true_eq] at this
   have h2:lastAt o (j+1)=o.fixes[j].at_:=by show (match o.fixes[j]? with | some f=>f.at_ | none=>-1)=_;rw [List.getElem?_eq_getElem (by omega)]
   rw [h2] at this;exact ⟨by have:=this.1;omega,this.2.1.2⟩
theorem right_small {o:Ob} (h:oChk o=0):o.name.size<=8/\(∀ s ∈ o.uses,s.size<=8)/\o.uses.length<=3/\o.code.length<=2048/\o.fixes.length<=2048/\o.entries.length<=6:=by
 obtain ⟨h1,h2,h3,h4⟩:=oChk_parts h;unfold oMany at h1;simp only [Bool.or_eq_false_iff,decide_eq_false_iff_not] at h1;unfold namesB at h2;rw [Bool.and_eq_true] at h2;refine ⟨nameB_size h2.1,fun s hs=>?_,by omega,by omega,?_,by omega⟩
 . obtain ⟨j,hj,rfl⟩:=List.getElem_of_mem hs
   have:=allTo_true.1 h2.2 j hj;unfold useAt at this;rw [List.getElem?_eq_getElem hj] at this;simp only [Bool.and_eq_true] at this;exact nameB_size this.1
 . rcases Nat.eq_zero_or_pos o.fixes.length with h0 | h0
   . omega
   . have:=fix_ge h4 (o.fixes.length - 1) (by omega)
     omega
theorem DAt.lower {w:World} {a:Option Addr} {n:Nat} {ds:List D} (h:DAt w Tt a n ds):DAt w (·<w.heap.size) a n ds:=h.moves ⟨Nat.le_refl _,fun b hb _=>⟨hb,rfl⟩⟩
theorem objWrite_any (o:Ob) (x1:Option Addr) (y1:Nat) (x3:Option Addr) (y3:Nat) (x4:Option Addr) (y4:Nat) (x5:Option Addr) (y5:Nat) (w:World) (hO:OvAt w o x1 x3 x4 x5) (hcp:o.uses.length<=y1) :
 Calls Tryz.prog 35 #[.agg #[.string o.name,.slice x1 o.uses.length y1,.int .i64 o.data,.slice x3 o.code.length y3,.slice x4 o.fixes.length y4,.slice x5 o.entries.length y5,.int .i64 o.main]] w fun e w'=>e = .returned (.tuple #[.string (Fx.strOf (wrO o).1),.int .i64 (wrO o).2])/\Below w.heap.size w w':=by
 have HC:=hid (objCheck_any o x1 y1 x3 y3 x4 y4 x5 y5 (w.alloc (.cells #[.string o.name,.slice x1 o.uses.length y1,.int .i64 o.data,.slice x3 o.code.length y3,.slice x4 o.fixes.length y4,.slice x5 o.entries.length y5,.int .i64 o.main] 62)) (hO.later (al1 _ _)) hcp)
 by_cases h0:oChk o=0
 . obtain ⟨k1,k2,k3,k4,k5,k6⟩:=right_small h0
   have HQ:Hid (wrO o=if 32768<(objB o).length then ([],2) else (objB o,0)):=if_pos h0;rw [h0] at HC;have HO:=hid hO;have HK:=hid k2;clear hO hcp h0 k2;go_enter Tryz.func35,Tryz.ntmps35;go_wp2_with fail;refine HC.out.mono ?_;rintro e w1 ⟨rfl,hb1⟩;have HB1:=hid (thenB (al1 w _) hb1);have HX1:=hid (later_blk (heap_newP w (.cells #[.string o.name,.slice x1 o.uses.length y1,.int .i64 o.data,.slice x3 o.code.length y3,.slice x4 o.fixes.length y4,.slice x5 o.entries.length y5,.int .i64 o.main] 62)) hb1);have HO1:=hid (HO.out.later HB1.out);clear hb1 HO;have HU:=hid (HO1.out.uses.lower);have HCo:=hid (HO1.out.code.lower);have HFx:=hid (HO1.out.fixes.lower);have HEn:=hid (HO1.out.entries.lower);have hz1:=lt_of_heap HX1.out
   have HX:Hid (∀ W,Below w1.heap.size w1 W->W.cell? ⟨w.heap.size,0,none⟩=some (.string o.name)/\W.cell? ⟨w.heap.size,1,none⟩=some (.slice x1 o.uses.length y1)/\W.cell? ⟨w.heap.size,2,none⟩=some (.int .i64 o.data)/\W.cell? ⟨w.heap.size,3,none⟩=some (.slice x3 o.code.length y3)/\W.cell? ⟨w.heap.size,4,none⟩=some (.slice x4 o.fixes.length y4)/\W.cell? ⟨w.heap.size,5,none⟩=some (.slice x5 o.entries.length y5)/\W.cell? ⟨w.heap.size,6,none⟩=some (.int .i64 o.main)/\w.heap.size<W.heap.size):=fun W hW=>by
    have h:=later_blk HX1.out hW;obtain ⟨r0,r1,r2,r3,r4,r5,r6,_⟩:=cells7 h;exact ⟨r0,r1,r2,r3,r4,r5,r6,lt_of_heap h⟩
   obtain ⟨q0,q1,q2,q3,q4,q5,q6,qz⟩:=HX.out w1 (Below.refl _ _);go_wp2_with fail;refine (text_ret o.name (Fx.Row.nil w1.heap.size w1) (Nat.le_refl _) (by simp) (by omega)).mono ?_;rintro e w2 ⟨u2,rfl,h2,b2⟩;have R2:=hid h2;have B2:=hid ((Below.refl w1.heap.size w1).trans b2)
   have N2:Hid (∃ l,l=[]++Fx.textB o.name):=⟨_,rfl⟩
   obtain ⟨l2,e2⟩:=N2.out;rw [← e2] at R2
   have L2:Hid (l2.length<=9):=by
    show _<=_;rw [e2,List.length_append]
    rw [textB_len];simp only [List.length_nil];omega
   have E2:=hid e2;have hz2:=b2.size;clear h2 b2 q0 q1 q2 q3 q4 q5 q6 qz e2 N2;obtain ⟨q0,q1,q2,q3,q4,q5,q6,qz⟩:=HX.out w2 B2.out;go_wp2_with fail;refine (appendTexts_any w1.heap.size _ _ o.uses x1 y1 _ R2.out B2.out.size (HU.out.moves (moves_below B2.out (Nat.le_refl _))) (by have:=L2.out;omega) (fun s hs=>by have:=HK.out s hs;omega)).mono ?_;rintro e w3 ⟨u3,rfl,h3,b3⟩;have R3:=hid h3;have B3:=hid (B2.out.trans b3)
   have N3:Hid (∃ l,l=l2++listB Fx.textB o.uses):=⟨_,rfl⟩
   obtain ⟨l3,e3⟩:=N3.out;rw [← e3] at R3
   have L3:Hid (l3.length<=9+(8+3*256)):=by
    show _<=_;rw [e3,List.length_append]
    have h1:=listB_le Fx.textB 256 o.uses (fun s hs=>textB_le (by have:=HK.out s hs;omega));have h2:=L2.out;omega
   have E3:=hid e3;have hz3:=b3.size;clear h3 b3 q0 q1 q2 q3 q4 q5 q6 qz e3 N3;obtain ⟨q0,q1,q2,q3,q4,q5,q6,qz⟩:=HX.out w3 B3.out;go_wp2_with fail;refine (num_ret o.data R3.out B3.out.size (by have:=L3.out;omega)).mono ?_;rintro e w4 ⟨u4,rfl,h4,b4,_⟩;have R4:=hid h4;have B4:=hid (B3.out.trans b4)
   have N4:Hid (∃ l,l=l3++Fx.numB o.data):=⟨_,rfl⟩
   obtain ⟨l4,e4⟩:=N4.out;rw [← e4] at R4
   have L4:Hid (l4.length<=9+(8+3*256)+8):=by
    show _<=_;rw [e4,List.length_append]
    rw [numB_eight];have h2:=L3.out;omega
   have E4:=hid e4;have hz4:=b4.size;clear h4 b4 q0 q1 q2 q3 q4 q5 q6 qz e4 N4;obtain ⟨q0,q1,q2,q3,q4,q5,q6,qz⟩:=HX.out w4 B4.out;go_wp2_with fail;refine (appendInstrs_any w1.heap.size _ _ o.code x3 y3 _ R4.out B4.out.size (HCo.out.moves (moves_below B4.out (Nat.le_refl _))) (by have:=L4.out;omega)).mono ?_;rintro e w5 ⟨u5,rfl,h5,b5⟩;have R5:=hid h5;have B5:=hid (B4.out.trans b5)
   have N5:Hid (∃ l,l=l4++listB instrB o.code):=⟨_,rfl⟩
   obtain ⟨l5,e5⟩:=N5.out;rw [← e5] at R5
   have L5:Hid (l5.length<=9+(8+3*256)+8+(8+17*2048)):=by
    show _<=_;rw [e5,List.length_append]
    have h1:=listB_le instrB 17 o.code (fun x _=>Nat.le_of_eq (instrB_len x));have h2:=L4.out;omega
   have E5:=hid e5;have hz5:=b5.size;clear h5 b5 q0 q1 q2 q3 q4 q5 q6 qz e5 N5;obtain ⟨q0,q1,q2,q3,q4,q5,q6,qz⟩:=HX.out w5 B5.out;go_wp2_with fail;refine (appendFixes_any w1.heap.size _ _ o.fixes x4 y4 _ R5.out B5.out.size (HFx.out.moves (moves_below B5.out (Nat.le_refl _))) (by have:=L5.out;omega)).mono ?_;rintro e w6 ⟨u6,rfl,h6,b6⟩;have R6:=hid h6;have B6:=hid (B5.out.trans b6)
   have N6:Hid (∃ l,l=l5++listB fixBy o.fixes):=⟨_,rfl⟩
   obtain ⟨l6,e6⟩:=N6.out;rw [← e6] at R6
   have L6:Hid (l6.length<=9+(8+3*256)+8+2*(8+17*2048)):=by
    show _<=_;rw [e6,List.length_append]
    have h1:=listB_le fixBy 17 o.fixes (fun x _=>Nat.le_of_eq (fixBy_len x));have h2:=L5.out;omega
   have E6:=hid e6;have hz6:=b6.size;clear h6 b6 q0 q1 q2 q3 q4 q5 q6 qz e6 N6;obtain ⟨q0,q1,q2,q3,q4,q5,q6,qz⟩:=HX.out w6 B6.out;go_wp2_with fail;refine (appendNums_any w1.heap.size _ _ o.entries x5 y5 _ R6.out B6.out.size (HEn.out.moves (moves_below B6.out (Nat.le_refl _))) (by have:=L6.out;omega)).mono ?_;rintro e w7 ⟨u7,rfl,h7,b7⟩;have R7:=hid h7;have B7:=hid (B6.out.trans b7)
   have N7:Hid (∃ l,l=l6++listB Fx.numB o.entries):=⟨_,rfl⟩
   obtain ⟨l7,e7⟩:=N7.out;rw [← e7] at R7
   have L7:Hid (l7.length<=9+(8+3*256)+8+2*(8+17*2048)+(8+8*6)):=by
    show _<=_;rw [e7,List.length_append]
    have h1:=listB_le Fx.numB 8 o.entries (fun x _=>Nat.le_of_eq (numB_eight x));have h2:=L6.out;omega
   have E7:=hid e7;have hz7:=b7.size;clear h7 b7 q0 q1 q2 q3 q4 q5 q6 qz e7 N7;obtain ⟨q0,q1,q2,q3,q4,q5,q6,qz⟩:=HX.out w7 B7.out;go_wp2_with fail;refine (num_ret o.main R7.out B7.out.size (by have:=L7.out;omega)).mono ?_;rintro e w8 ⟨u8,rfl,h8,b8,_⟩;have R8:=hid h8;have B8:=hid (B7.out.trans b8)
   have N8:Hid (∃ l,l=l7++Fx.numB o.main):=⟨_,rfl⟩
   obtain ⟨l8,e8⟩:=N8.out;rw [← e8] at R8
   have L8:Hid (l8.length<=9+(8+3*256)+8+2*(8+17*2048)+(8+8*6)+8):=by
    show _<=_;rw [e8,List.length_append]
    rw [numB_eight];have h2:=L7.out;omega
   have E8:=hid e8;have hz8:=b8.size;clear h8 b8 q0 q1 q2 q3 q4 q5 q6 qz e8 N8;obtain ⟨q0,q1,q2,q3,q4,q5,q6,qz⟩:=HX.out w8 B8.out
   have HE:Hid (l8=objB o):=by
    show _=_;rw [E8.out,E7.out,E6.out,E5.out,E4.out,E3.out,E2.out];unfold objB;simp only [List.nil_append,List.append_assoc]
   have hcv:=row_conv R8.out (by rw [E8.out];simp [Fx.numB]);obtain ⟨a8,c8,rfl⟩:=row_slice R8.out;have hlb:=L8.out;have HB8:=hid (thenB HB1.out B8.out);clear q0 q1 q2 q3 q4 q5 q6 qz;rw [← HE.out] at HQ
   by_cases hc:32768<l8.length
   . rw [if_pos hc] at HQ
     have hc':(32768:Int)<l8.length:=by omega
     go_wp2_with fail;go_ret2;exact ⟨by rw [HQ.out];rfl,HB8.out⟩
   . rw [if_neg hc] at HQ
     have hc':¬ (32768:Int)<l8.length:=by omega
     go_wp2_with fail;go_ret2;exact ⟨by rw [HQ.out];first | done | rfl,HB8.out⟩
 . have HQ:Hid (wrO o=([],oChk o)):=if_neg h0
   have hb0:(oChk o != 0)=true:=by rw [bne_iff_ne];exact h0
   clear hO hcp h0;generalize oChk o=E at *;go_enter Tryz.func35,Tryz.ntmps35;go_wp2_with fail;refine HC.out.mono ?_;rintro e w1 ⟨rfl,hb1⟩;have HB1:=hid (thenB (al1 w _) hb1);clear hb1;go_wp2_with fail;go_ret2;exact ⟨by rw [HQ.out];rfl,HB1.out⟩
end Go.Proofs.YtndkhgakfodldaaGreatDoor
