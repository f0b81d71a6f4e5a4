import Derived.Test.YtndkhgakfodldaaGreatDoorPure
import Derived.Lib.ItoaMem
import Derived.Lib.IndexLaws
namespace Go.Proofs.YtndkhgakfodldaaGreatDoor
namespace Lx
def dv (c:UInt8):Nat:=c.toNat - 48
def valL (l:L8):Nat:=l.foldl (fun n c=>10*n+dv c) 0
def zm9:L8->Bool
 | []=>true
 | [_]=>true
 | c :: _=>c != 48
def zgr (l:L8):Bool:=l.all zie&&zm9 l&&decide (valL l<=1099511627775)
def zjm:L8->Bool
 | [c]=>zwe c
 | _=>false
theorem zyx (l:L8) (c:UInt8):valL (l++[c])=10*valL l+dv c:=by simp [valL]
theorem z1z (l:L8):∀ n:Nat,n<=l.foldl (fun n c=>10*n+dv c) n:=by
 induction l with
 | nil=>intro n;exact vaa _
 | cons c l ih=>intro n;simp only [List.foldl_cons];have:=ih (10*n+dv c);omega
theorem zl8 (a b:L8):valL a<=valL (a++b):=by
 unfold valL;rw [vbk];exact z1z b _
theorem zyy (c:UInt8) (h:zie c=true):48<=c.toNat/\c.toNat<=57:=by
 simp [zie] at h;omega
theorem zl9 (l:L8) (hd:l.all zie=false):zgr l=false:=by unfold zgr;rw [hd];rfl
theorem zma (c:UInt8):decide (0<=Lib.indexByte signs c)=zwe c:=by
 cases h:zwe c with
 | true=>
   unfold zwe at h;rw [vce] at h;obtain ⟨k,hk,e⟩:=vbl h;have FO:=Lib.indexByte_ge signs c;rw [decide_eq_true_iff]
   by_cases hm:Lib.indexByte signs c = -1
   . exact absurd (by rw [vae hk,e]) (Lib.indexByte_none hm k)
   . omega
 | false=>
   rw [decide_eq_false_iff_not];intro FO;obtain ⟨o,ho⟩:=Int.eq_ofNat_of_zero_le FO;have:=(Lib.indexByte_some ho).1;have hm:c ∈ signs:=vdh this;unfold zwe at h;rw [← vce] at hm;rw [hm] at h;cases h
theorem zsq (s:ByteArray) (h:0<s.size):∃ r,s.data.toList=s[0] :: r/\r.length=s.size - 1:=by
 have:=zhy s 0 h;have hl:=zaz s
 cases Fs:s.data.toList with
 | nil=>rw [Fs] at hl;simp at hl;omega
 | cons c r=>rw [Fs] at this hl;simp at this hl;exact ⟨r,by rw [this],by omega⟩
theorem z10 (s:ByteArray) (h:1<s.size) (h0:s[0]=48):zm9 s.data.toList=false:=by
 obtain ⟨r,e,hr⟩:=zsq s (by omega);rw [e,h0]
 cases r with
 | nil=>simp at hr;omega
 | cons y r=>rfl
theorem zyz (s:ByteArray) (h:∀ h1:1<s.size,s[0]≠48):zm9 s.data.toList=true:=by
 by_cases h0:s.size=0
 . have:s.data.toList=[]:=vak (by rw [zaz];exact h0)
   rw [this];rfl
 obtain ⟨r,e,hr⟩:=zsq s (by omega);rw [e]
 cases r with
 | nil=>rfl
 | cons y r=>simp at hr;simpa [zm9] using h (by omega)
theorem zor (s:ByteArray) (k:Nat) (h:k<s.size):valL (s.data.toList.take (k+1))=10*valL (s.data.toList.take k)+dv s[k]:=by
 rw [zhy s k h,zyx]
theorem zsr (s:ByteArray) (k:Nat):valL (s.data.toList.take k)<=valL s.data.toList:=by
 have:=zl8 (s.data.toList.take k) (s.data.toList.drop k);rwa [vco] at this
theorem zy0 (s:ByteArray) (k:Nat) (h:1099511627775<valL (s.data.toList.take k)):zgr s.data.toList=false:=by
 have:=zsr s k;unfold zgr
 rw [show decide (valL s.data.toList<=1099511627775)=false from by simp;omega];simp
theorem zv6 (l:L8) (h:zm9 l=false):zgr l=false:=by unfold zgr;rw [h];simp
theorem zy1 (s:ByteArray) (h:s.size=1):zjm s.data.toList=zwe s[0]:=by
 obtain ⟨r,e,hr⟩:=zsq s (by omega);have:r=[]:=vak (by omega)
 rw [e,this];rfl
theorem zss (s:ByteArray) (h:s.size≠1):zjm s.data.toList=false:=by
 have hl:=zaz s
 cases e:s.data.toList with
 | nil=>rfl
 | cons c r=>
   cases r with
   | nil=>rw [e] at hl;simp at hl;omega
   | cons y r=>rfl
end Lx
end Go.Proofs.YtndkhgakfodldaaGreatDoor
