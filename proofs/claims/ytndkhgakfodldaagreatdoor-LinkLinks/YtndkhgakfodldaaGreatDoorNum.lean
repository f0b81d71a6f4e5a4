import Derived.Test.YtndkhgakfodldaaGreatDoorPure
import Derived.Lib.ItoaMem
import Derived.Lib.IndexLaws
namespace Go.Proofs.YtndkhgakfodldaaGreatDoor
namespace Lx
def dv (c:UInt8):Nat:=c.toNat - 48
def valL (l:L8):Nat:=l.foldl (fun n c=>10*n+dv c) 0
def znu:L8->Bool
 | []=>true
 | [_]=>true
 | c :: _=>c != 48
def zhc (l:L8):Bool:=l.all zi7&&znu l&&decide (valL l<=1099511627775)
def zkd:L8->Bool
 | [c]=>zw3 c
 | _=>false
theorem zzk (l:L8) (c:UInt8):valL (l++[c])=10*valL l+dv c:=by simp [valL]
theorem z2t (l:L8):∀ n:Nat,n<=l.foldl (fun n c=>10*n+dv c) n:=by
 induction l with
 | nil=>intro n;exact vaa _
 | cons c l ih=>intro n;simp only [List.foldl_cons];have:=ih (10*n+dv c);omega
theorem zmx (a b:L8):valL a<=valL (a++b):=by
 unfold valL;rw [vbo];exact z2t b _
theorem zzl (c:UInt8) (h:zi7 c=true):48<=c.toNat/\c.toNat<=57:=by
 simp [zi7] at h;omega
theorem zmy (l:L8) (hd:l.all zi7=false):zhc l=false:=by unfold zhc;rw [hd];rfl
theorem zmz (c:UInt8):decide (0<=Lib.indexByte signs c)=zw3 c:=by
 cases h:zw3 c with
 | true=>
   unfold zw3 at h;rw [vcj] at h;obtain ⟨k,hk,e⟩:=vba h;have Gn:=Lib.indexByte_ge signs c;rw [decide_eq_true_iff]
   by_cases hm:Lib.indexByte signs c = -1
   . exact absurd (by rw [vad hk,e]) (Lib.indexByte_none hm k)
   . omega
 | false=>
   rw [decide_eq_false_iff_not];intro Gn;obtain ⟨o,ho⟩:=Int.eq_ofNat_of_zero_le Gn;have:=(Lib.indexByte_some ho).1;have hm:c ∈ signs:=vdo this;unfold zw3 at h;rw [← vcj] at hm;rw [hm] at h;cases h
theorem zs9 (s:ByteArray) (h:0<s.size):∃ r,s.data.toList=s[0] :: r/\r.length=s.size - 1:=by
 have:=zik s 0 h;have hl:=za0 s
 cases FW:s.data.toList with
 | nil=>rw [FW] at hl;simp at hl;omega
 | cons c r=>rw [FW] at this hl;simp at this hl;exact ⟨r,by rw [this],ae⟩
theorem z2u (s:ByteArray) (h:1<s.size) (h0:s[0]=48):znu s.data.toList=false:=by
 obtain ⟨r,e,hr⟩:=zs9 s ae;rw [e,h0]
 cases r with
 | nil=>simp at hr;omega
 | cons y r=>rfl
theorem zzm (s:ByteArray) (h:∀ h1:1<s.size,s[0]≠48):znu s.data.toList=true:=by
 by_cases h0:s.size=0
 . have:s.data.toList=[]:=vam (by rw [za0];exact h0)
   rw [this];rfl
 obtain ⟨r,e,hr⟩:=zs9 s ae;rw [e]
 cases r with
 | nil=>rfl
 | cons y r=>simp at hr;simpa [znu] using h ae
theorem zo7 (s:ByteArray) (k:Nat) (h:k<s.size):valL (s.data.toList.take (k+1))=10*valL (s.data.toList.take k)+dv s[k]:=by
 rw [zik s k h,zzk]
theorem zta (s:ByteArray) (k:Nat):valL (s.data.toList.take k)<=valL s.data.toList:=by
 have:=zmx (s.data.toList.take k) (s.data.toList.drop k);rwa [vck] at this
theorem zzn (s:ByteArray) (k:Nat) (h:1099511627775<valL (s.data.toList.take k)):zhc s.data.toList=false:=by
 have:=zta s k;unfold zhc
 rw [show decide (valL s.data.toList<=1099511627775)=false from aF];simp
theorem zwv (l:L8) (h:znu l=false):zhc l=false:=by unfold zhc;rw [h];simp
theorem zzo (s:ByteArray) (h:s.size=1):zkd s.data.toList=zw3 s[0]:=by
 obtain ⟨r,e,hr⟩:=zs9 s ae;have:r=[]:=vam ae
 rw [e,this];rfl
theorem ztb (s:ByteArray) (h:s.size≠1):zkd s.data.toList=false:=by
 have hl:=za0 s
 cases e:s.data.toList with
 | nil=>rfl
 | cons c r=>
   cases r with
   | nil=>rw [e] at hl;simp at hl;omega
   | cons y r=>rfl
end Lx
end Go.Proofs.YtndkhgakfodldaaGreatDoor
