import Derived.Test.YtndkhgakfodldaaGreatDoorPure
import Derived.Lib.ItoaMem
import Derived.Lib.IndexLaws
namespace Go.Proofs.YtndkhgakfodldaaGreatDoor
namespace Lx
def dv (c:UInt8):Nat:=c.toNat - 48
def valL (l:L8):Nat:=l.foldl (fun n an=>10*n+dv an) 0
def zn5:L8->Bool
 | []=>true
 | [_]=>true
 | an :: _=>an != 48
def zhs (l:L8):Bool:=l.all zlj&&zn5 l&&decide (valL l<=1099511627775)
def zle:L8->Bool
 | [an]=>rU an
 | _=>false
theorem H2 (l:L8) (c:UInt8):valL (l++[c])=10*valL l+dv c:=by simp [valL]
theorem H3 (l:L8):∀ n:Nat,n<=l.foldl (fun n an=>10*n+dv an) n:=by
 induction l with
 | nil=>intro n;exact dA _
 | cons an l ay=>intro n;simp only [List.foldl_cons];have:=ay (10*n+dv an);omega
theorem H4 (a b:L8):valL a<=valL (a++b):=by
 unfold valL;rw [lG];exact H3 b _
theorem z07 (c:UInt8) (h:zlj c=true):48<=c.toNat/\c.toNat<=57:=by
 simp [zlj] at h;omega
theorem zm5 (l:L8) (hd:l.all zlj=false):zhs l=false:=by unfold zhs;rw [hd];rfl
theorem zm6 (c:UInt8):decide (0<=Lib.indexByte tb c)=rU c:=by
 cases h:rU c with
 | true=>
   unfold rU at h;rw [uQ] at h;obtain ⟨k,N,e⟩:=kI h;have E:=Lib.indexByte_ge tb c;rw [decide_eq_true_iff]
   by_cases a1:Lib.indexByte tb c = -1
   . exact absurd (by rw [ew N,e]) (Lib.indexByte_none a1 k)
   . omega
 | false=>
   rw [decide_eq_false_iff_not];intro E;obtain ⟨aj,ap⟩:=Int.eq_ofNat_of_zero_le E;have:=(Lib.indexByte_some ap).1;have a1:c ∈ tb:=qz this;unfold rU at h;rw [← uQ] at a1;rw [a1] at h;cases h
theorem w5 (s:ByteArray) (h:0<s.size):∃ r,s.data.toList=s[0] :: r/\r.length=s.size - 1:=by
 have:=uY s 0 h;have X:=zbb s
 cases j:s.data.toList with
 | nil=>rw [j] at X;simp at X;omega
 | cons an r=>rw [j] at this X;simp at this X;exact ⟨r,by rw [this],N7⟩
theorem z5d (s:ByteArray) (h:1<s.size) (ab:s[0]=48):zn5 s.data.toList=false:=by
 obtain ⟨r,e,Q⟩:=w5 s N7;rw [e,ab]
 cases r with
 | nil=>simp at Q;omega
 | cons a3 r=>rfl
theorem z08 (s:ByteArray) (h:∀ F:1<s.size,s[0]≠48):zn5 s.data.toList=true:=by
 by_cases ab:s.size=0
 . have:s.data.toList=[]:=hF (by rw [zbb];exact ab)
   rw [this];rfl
 obtain ⟨r,e,Q⟩:=w5 s N7;rw [e]
 cases r with
 | nil=>rfl
 | cons a3 r=>simp at Q;simpa [zn5] using h N7
theorem zpw (s:ByteArray) (k:Nat) (h:k<s.size):valL (s.data.toList.take (k+1))=10*valL (s.data.toList.take k)+dv s[k]:=by
 rw [uY s k h,H2]
theorem H5 (s:ByteArray) (k:Nat):valL (s.data.toList.take k)<=valL s.data.toList:=by
 have:=H4 (s.data.toList.take k) (s.data.toList.drop k);rwa [oC] at this
theorem z09 (s:ByteArray) (k:Nat) (h:1099511627775<valL (s.data.toList.take k)):zhs s.data.toList=false:=by
 have:=H5 s k;unfold zhs
 rw [show decide (valL s.data.toList<=1099511627775)=false from Of];simp
theorem zya (l:L8) (h:zn5 l=false):zhs l=false:=by unfold zhs;rw [h];simp
theorem z1a (s:ByteArray) (h:s.size=1):zle s.data.toList=rU s[0]:=by
 obtain ⟨r,e,Q⟩:=w5 s N7;have:r=[]:=hF N7
 rw [e,this];rfl
theorem zuo (s:ByteArray) (h:s.size≠1):zle s.data.toList=false:=by
 have X:=zbb s
 cases e:s.data.toList with
 | nil=>rfl
 | cons an r=>
   cases r with
   | nil=>rw [e] at X;simp at X;omega
   | cons a3 r=>rfl
end Lx
end Go.Proofs.YtndkhgakfodldaaGreatDoor
