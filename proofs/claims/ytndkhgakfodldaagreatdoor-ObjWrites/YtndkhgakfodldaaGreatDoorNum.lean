/-
  The plain mathematics of numerals: which digits are a number of a token, and that they are the numeral of its value.
-/
import Derived.Test.YtndkhgakfodldaaGreatDoorPure
import Derived.Lib.ItoaMem
import Derived.Lib.Bytealg
import Derived.Lib.IndexLaws
namespace Go.Proofs.YtndkhgakfodldaaGreatDoor
namespace Lx
def dv (c:UInt8):Nat:=c.toNat - 48
def valL (l:L8):Nat:=l.foldl (fun n c=>10*n+dv c) 0
def leadOk:L8->Bool
 | []=>true
 | [_]=>true
 | c :: _=>c != 48
def numOk (l:L8):Bool:=l.all digB&&leadOk l&&decide (valL l<=1099511627775)
def signL:L8->Bool
 | [c]=>zvn c
 | _=>false
theorem zxv (l:L8) (c:UInt8):valL (l++[c])=10*valL l+dv c:=by simp [valL,vbn]
theorem z0v (l:L8):∀ n:Nat,n<=l.foldl (fun n c=>10*n+dv c) n:=by
 induction l with
 | nil=>intro n;exact vaa _
 | cons c l ih=>intro n;simp only [List.foldl_cons];have:=ih (10*n+dv c);omega
theorem zma (a b:L8):valL a<=valL (a++b):=by
 unfold valL;rw [vbn];exact z0v b _
theorem dig_range (c:UInt8) (h:digB c=true):48<=c.toNat/\c.toNat<=57:=by
 simp [digB] at h;omega
theorem numOk_nondigit (l:L8) (hd:l.all digB=false):numOk l=false:=by unfold numOk;rw [hd];rfl
theorem indexByte_sign (c:UInt8):decide (0<=Lib.indexByte signs c)=zvn c:=by
 cases h:zvn c with
 | true=>
   unfold zvn at h;rw [vct] at h;obtain ⟨k,hk,e⟩:=vbd h;have hge:=Lib.indexByte_ge signs c;rw [decide_eq_true_iff]
   by_cases hm:Lib.indexByte signs c = -1
   . exact absurd (by rw [vaj hk,e]) (Lib.indexByte_none hm k)
   . omega
 | false=>
   rw [decide_eq_false_iff_not];intro hge;obtain ⟨o,ho⟩:=Int.eq_ofNat_of_zero_le hge;have:=(Lib.indexByte_some ho).1;have hm:c ∈ signs:=vds this;unfold zvn at h;rw [← vct] at hm;rw [hm] at h;cases h
theorem zsd (s:ByteArray) (h:0<s.size):∃ r,s.data.toList=s[0] :: r/\r.length=s.size - 1:=by
 have:=zh9 s 0 h;have hl:=len_toList s
 cases hl':s.data.toList with
 | nil=>rw [hl'] at hl;simp at hl;omega
 | cons c r=>rw [hl'] at this hl;simp at this hl;exact ⟨r,by rw [this],by omega⟩
theorem lead_bad (s:ByteArray) (h:1<s.size) (h0:s[0]=48):leadOk s.data.toList=false:=by
 obtain ⟨r,e,hr⟩:=zsd s (by omega);rw [e,h0]
 cases r with
 | nil=>simp at hr;omega
 | cons y r=>rfl
theorem lead_good (s:ByteArray) (h:∀ h1:1<s.size,s[0]≠48):leadOk s.data.toList=true:=by
 by_cases h0:s.size=0
 . have:s.data.toList=[]:=vao (by rw [len_toList];exact h0)
   rw [this];rfl
 obtain ⟨r,e,hr⟩:=zsd s (by omega);rw [e]
 cases r with
 | nil=>rfl
 | cons y r=>simp at hr;simpa [leadOk] using h (by omega)
theorem val_take_snoc (s:ByteArray) (k:Nat) (h:k<s.size):valL (s.data.toList.take (k+1))=10*valL (s.data.toList.take k)+dv s[k]:=by
 rw [zh9 s k h,zxv]
theorem zse (s:ByteArray) (k:Nat):valL (s.data.toList.take k)<=valL s.data.toList:=by
 have:=zma (s.data.toList.take k) (s.data.toList.drop k);rwa [vca] at this
theorem numOk_big (s:ByteArray) (k:Nat) (h:1099511627775<valL (s.data.toList.take k)):numOk s.data.toList=false:=by
 have:=zse s k;unfold numOk
 rw [show decide (valL s.data.toList<=1099511627775)=false from by simp;omega];simp
theorem numOk_lead (l:L8) (h:leadOk l=false):numOk l=false:=by unfold numOk;rw [h];simp
theorem signL_one (s:ByteArray) (h:s.size=1):signL s.data.toList=zvn s[0]:=by
 obtain ⟨r,e,hr⟩:=zsd s (by omega);have:r=[]:=vao (by omega)
 rw [e,this];rfl
theorem signL_other (s:ByteArray) (h:s.size≠1):signL s.data.toList=false:=by
 have hl:=len_toList s
 cases e:s.data.toList with
 | nil=>rfl
 | cons c r=>
   cases r with
   | nil=>rw [e] at hl;simp at hl;omega
   | cons y r=>rfl
end Lx
end Go.Proofs.YtndkhgakfodldaaGreatDoor
