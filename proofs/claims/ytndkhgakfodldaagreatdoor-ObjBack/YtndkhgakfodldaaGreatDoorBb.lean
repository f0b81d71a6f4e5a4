/-
  Numbers as bytes, there and back.
-/
import Derived.Test.YtndkhgakfodldaaGreatDoorXc
namespace Go.Proofs.YtndkhgakfodldaaGreatDoor
set_option maxRecDepth 100000
namespace Fx
open Go.RowKit
theorem byteOf_of (c:UInt8) (n:Int) (h:n % 256=c.toNat):byteOf n=c:=by
 have h1:=byteOf_nat n;rw [h] at h1;exact UInt8.toNat_inj.1 (by omega)
theorem wrap_step (x y:Int):wrap64 (wrap64 x*256+y)=wrap64 (x*256+y):=by unfold wrap64;omega
def horn (a b c d e f g h:Int):Int:=((((((a*256+b)*256+c)*256+d)*256+e)*256+f)*256+g)*256+h
theorem fold8 (st:Int->UInt8->Int) (a b c d e f g h:UInt8):[a,b,c,d,e,f,g,h].foldl st 0=st (st (st (st (st (st (st (st 0 a) b) c) d) e) f) g) h:=rfl
theorem valStep_eq (n:Int) (c:UInt8):valStep n c=wrap64 (n*256+c.toNat):=by unfold valStep;exact Eq.refl _
theorem step_of {n x:Int} (h:n=wrap64 x) (c:UInt8):valStep n c=wrap64 (x*256+c.toNat):=by rw [valStep_eq,h,wrap_step]
theorem horn_eq (a b c d e f g h:Int):horn a b c d e f g h=((((((a*256+b)*256+c)*256+d)*256+e)*256+f)*256+g)*256+h:=by unfold horn;exact Eq.refl _
theorem valL_eight (a b c d e f g h:UInt8):valL [a,b,c,d,e,f,g,h]=wrap64 (horn a.toNat b.toNat c.toNat d.toNat e.toNat f.toNat g.toNat h.toNat):=by
 have h0:valL [a,b,c,d,e,f,g,h]=_:=fold8 valStep a b c d e f g h
 have s1:valStep 0 a=wrap64 a.toNat:=by rw [valStep_eq,Int.zero_mul,Int.zero_add]
 rw [h0,horn_eq];exact step_of (step_of (step_of (step_of (step_of (step_of (step_of s1 b) c) d) e) f) g) h
theorem h_div (x c:Int) (h0:0<=c) (h1:c<256):(x*256+c) / 256=x:=by omega
theorem h_mod (x c:Int) (h0:0<=c) (h1:c<256):(x*256+c) % 256=c:=by omega
theorem w0 (v:Int):wrap64 v % 256=v % 256:=by unfold wrap64;omega
theorem w1 (v:Int):wrap64 v / 256 % 256=v / 256 % 256:=by unfold wrap64;omega
theorem p2 (v:Int):v / 65536=v / 256 / 256:=(Int.ediv_ediv_of_nonneg (x:=v) (y:=256) (z:=256) (by decide)).symm
theorem p3 (v:Int):v / 16777216=v / 65536 / 256:=(Int.ediv_ediv_of_nonneg (x:=v) (y:=65536) (z:=256) (by decide)).symm
theorem p4 (v:Int):v / 4294967296=v / 16777216 / 256:=(Int.ediv_ediv_of_nonneg (x:=v) (y:=16777216) (z:=256) (by decide)).symm
theorem p5 (v:Int):v / 1099511627776=v / 4294967296 / 256:=(Int.ediv_ediv_of_nonneg (x:=v) (y:=4294967296) (z:=256) (by decide)).symm
theorem p6 (v:Int):v / 281474976710656=v / 1099511627776 / 256:=(Int.ediv_ediv_of_nonneg (x:=v) (y:=1099511627776) (z:=256) (by decide)).symm
theorem p7 (v:Int):v / 72057594037927936=v / 281474976710656 / 256:=(Int.ediv_ediv_of_nonneg (x:=v) (y:=281474976710656) (z:=256) (by decide)).symm
theorem w2 (v:Int):wrap64 v / 65536 % 256=v / 256 / 256 % 256:=by
 have h:wrap64 v / 65536 % 256=v / 65536 % 256:=by unfold wrap64;omega
 rw [h,p2]
theorem w3 (v:Int):wrap64 v / 16777216 % 256=v / 256 / 256 / 256 % 256:=by
 have h:wrap64 v / 16777216 % 256=v / 16777216 % 256:=by unfold wrap64;omega
 rw [h,p3,p2]
theorem w4 (v:Int):wrap64 v / 4294967296 % 256=v / 256 / 256 / 256 / 256 % 256:=by
 have h:wrap64 v / 4294967296 % 256=v / 4294967296 % 256:=by unfold wrap64;omega
 rw [h,p4,p3,p2]
theorem w5 (v:Int):wrap64 v / 1099511627776 % 256=v / 256 / 256 / 256 / 256 / 256 % 256:=by
 have h:wrap64 v / 1099511627776 % 256=v / 1099511627776 % 256:=by unfold wrap64;omega
 rw [h,p5,p4,p3,p2]
theorem w6 (v:Int):wrap64 v / 281474976710656 % 256=v / 256 / 256 / 256 / 256 / 256 / 256 % 256:=by
 have h:wrap64 v / 281474976710656 % 256=v / 281474976710656 % 256:=by unfold wrap64;omega
 rw [h,p6,p5,p4,p3,p2]
theorem w7 (v:Int):wrap64 v / 72057594037927936 % 256=v / 256 / 256 / 256 / 256 / 256 / 256 / 256 % 256:=by
 have h:wrap64 v / 72057594037927936 % 256=v / 72057594037927936 % 256:=by unfold wrap64;omega
 rw [h,p7,p6,p5,p4,p3,p2]
theorem eight {x:List UInt8} (h:x.length=8):∃ a b c d e f g i,x=[a,b,c,d,e,f,g,i]:=by
 match x,h with
 | [a,b,c,d,e,f,g,i],_=>exact ⟨a,b,c,d,e,f,g,i,rfl⟩
theorem u8_in (c:UInt8):0<=(c.toNat:Int)/\(c.toNat:Int)<256:=by have:=c.toNat_lt;omega
theorem numB_valL {x:List UInt8} (hx:x.length=8):numB (valL x)=x:=by
 obtain ⟨a,b,c,d,e,f,g,h,rfl⟩:=eight hx;rw [valL_eight]
 have da:=u8_in a;have db:=u8_in b;have dc:=u8_in c;have dd:=u8_in d
 have de:=u8_in e;have df:=u8_in f;have dg:=u8_in g;have dh:=u8_in h
 unfold numB
 rw [byteOf_of a _ (by rw [w7];rw [horn_eq,h_div _ _ dh.1 dh.2,h_div _ _ dg.1 dg.2,h_div _ _ df.1 df.2,h_div _ _ de.1 de.2,h_div _ _ dd.1 dd.2,h_div _ _ dc.1 dc.2,h_div _ _ db.1 db.2];omega),
  byteOf_of b _ (by rw [w6];rw [horn_eq,h_div _ _ dh.1 dh.2,h_div _ _ dg.1 dg.2,h_div _ _ df.1 df.2,h_div _ _ de.1 de.2,h_div _ _ dd.1 dd.2,h_div _ _ dc.1 dc.2,h_mod _ _ db.1 db.2]),
  byteOf_of c _ (by rw [w5];rw [horn_eq,h_div _ _ dh.1 dh.2,h_div _ _ dg.1 dg.2,h_div _ _ df.1 df.2,h_div _ _ de.1 de.2,h_div _ _ dd.1 dd.2,h_mod _ _ dc.1 dc.2]),
  byteOf_of d _ (by rw [w4];rw [horn_eq,h_div _ _ dh.1 dh.2,h_div _ _ dg.1 dg.2,h_div _ _ df.1 df.2,h_div _ _ de.1 de.2,h_mod _ _ dd.1 dd.2]),
  byteOf_of e _ (by rw [w3];rw [horn_eq,h_div _ _ dh.1 dh.2,h_div _ _ dg.1 dg.2,h_div _ _ df.1 df.2,h_mod _ _ de.1 de.2]),
  byteOf_of f _ (by rw [w2];rw [horn_eq,h_div _ _ dh.1 dh.2,h_div _ _ dg.1 dg.2,h_mod _ _ df.1 df.2]),
  byteOf_of g _ (by rw [w1];rw [horn_eq,h_div _ _ dh.1 dh.2,h_mod _ _ dg.1 dg.2]),
  byteOf_of h _ (by rw [w0];rw [horn_eq,h_mod _ _ dh.1 dh.2])]
end Fx
end Go.Proofs.YtndkhgakfodldaaGreatDoor

namespace Go.Proofs.YtndkhgakfodldaaGreatDoor
set_option maxRecDepth 100000
namespace Fx
open Go.RowKit
theorem horn_lin (q0 q1 q2 q3 q4 q5 q6 q7 q8 r0 r1 r2 r3 r4 r5 r6 r7:Int) (h0:q0=q1*256+r0) (h1:q1=q2*256+r1) (h2:q2=q3*256+r2) (h3:q3=q4*256+r3) (h4:q4=q5*256+r4) (h5:q5=q6*256+r5) (h6:q6=q7*256+r6) (h7:q7=q8*256+r7) :
 horn r7 r6 r5 r4 r3 r2 r1 r0=q0 - q8*18446744073709551616:=by
 rw [horn_eq];subst h7 h6 h5 h4 h3 h2 h1 h0;omega
theorem valL_numB (n:Int) (h0 : -9223372036854775808<=n) (h1:n<=9223372036854775807):valL (numB n)=n:=by
 unfold numB;rw [valL_eight];simp only [byteOf_nat]
 have d:∀ x:Int,x=x / 256*256+x % 256:=fun x=>by omega
 have h:=horn_lin n (n / 256) (n / 65536) (n / 16777216) (n / 4294967296) (n / 1099511627776) (n / 281474976710656) (n / 72057594037927936) (n / 72057594037927936 / 256) _ _ _ _ _ _ _ _
  (d n) (by rw [p2];exact d _) (by rw [p3];exact d _) (by rw [p4];exact d _) (by rw [p5];exact d _) (by rw [p6];exact d _) (by rw [p7];exact d _) (d _)
 rw [h];unfold wrap64;omega
end Fx
end Go.Proofs.YtndkhgakfodldaaGreatDoor

namespace Go.Proofs.YtndkhgakfodldaaGreatDoor
set_option maxRecDepth 100000
namespace Fx
open Go.RowKit
theorem pByte_cons (c:UInt8) (r:List UInt8):pByte (c :: r)=some ((c.toNat:Int),r):=by
 unfold pByte pTake;rw [if_neg (by simp)]
 rfl
theorem byteOf_nat8 (c:UInt8):byteOf (c.toNat:Int)=c:=byteOf_of c _ (by have:=c.toNat_lt;omega)
theorem pByte_back {l r:List UInt8} {n:Int} (h:pByte l=some (n,r)):l=byteOf n :: r:=by
 cases l with
 | nil=>cases h
 | cons c l=>rw [pByte_cons] at h;cases h;rw [byteOf_nat8]
theorem pTake_app (x r:List UInt8):pTake x.length (x++r)=some (x,r):=by
 unfold pTake;rw [if_neg (by simp)];simp
theorem pText_back {l x r:List UInt8} (h:pText l=some (x,r)):l=textB (strOf x)++r:=by
 unfold pText at h
 cases hb:pByte l with
 | none=>rw [hb] at h;cases h
 | some q=>
   obtain ⟨n,l1⟩:=q;rw [hb] at h;obtain ⟨h0,h1,_⟩:=pByte_lo hb;obtain ⟨h2,h3⟩:=pTake_len (show pTake n.toNat l1=some (x,r) from h);rw [pByte_back hb,h3];unfold textB;rw [strOf_size,strOf_list,h2,Int.toNat_of_nonneg h0]
   rfl
theorem pText_there (s:ByteArray) (r:List UInt8) (h:s.size<=255):pText (textB s++r)=some (s.data.toList,r):=by
 unfold textB;rw [List.cons_append];unfold pText;rw [pByte_cons];show pTake ((byteOf s.size).toNat:Int).toNat (s.data.toList++r)=_;rw [byteOf_nat,show ((s.size:Int) % 256).toNat=s.data.toList.length by rw [Lx.len_toList];omega];exact pTake_app _ _
theorem pNum_back {l r:List UInt8} {n:Int} (h:pNum l=some (n,r)):l=numB n++r:=by
 unfold pNum at h
 cases hb:pTake 8 l with
 | none=>rw [hb] at h;cases h
 | some q=>
   obtain ⟨x,y⟩:=q;rw [hb] at h;cases h;obtain ⟨h2,h3⟩:=pTake_len hb;show l=numB (valL x)++y;rw [numB_valL h2];exact h3
theorem pNum_there (n:Int) (r:List UInt8) (h0 : -9223372036854775808<=n) (h1:n<=9223372036854775807):pNum (numB n++r)=some (n,r):=by
 unfold pNum;rw [show pTake 8 (numB n++r)=some (numB n,r) from pTake_app (numB n) r];show some (valL (numB n),r)=_;rw [valL_numB n h0 h1]
end Fx
end Go.Proofs.YtndkhgakfodldaaGreatDoor
