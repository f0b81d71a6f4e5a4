import Derived.Test.YtndkhgakfodldaaGreatDoorPure
import Derived.Lib.ItoaMem
import Derived.Lib.IndexLaws
namespace Go.Proofs.YtndkhgakfodldaaGreatDoor
namespace Lx
def dv (c:UInt8):Nat:=c.toNat - 48
def zgw (l:L8):Nat:=l.foldl (fun n c=>10*n+dv c) 0
def zlk:L8->Bool
 | []=>true
 | [_]=>true
 | c :: _=>c != 48
def zf4 (l:L8):Bool:=l.all zhx&&zlk l&&decide (zgw l<=1099511627775)
def ziq:L8->Bool
 | [c]=>zss c
 | _=>false
theorem zu1 (l:L8) (c:UInt8):zgw (l++[c])=10*zgw l+dv c:=by simp [zgw]
theorem zxg (l:L8):∀ n:Nat,n<=l.foldl (fun n c=>10*n+dv c) n:=by
 induction l with
 | nil=>intro n;exact vaa _
 | cons c l ih=>intro n;simp only [List.foldl_cons];have:=ih (10*n+dv c);omega
theorem zku (a b:L8):zgw a<=zgw (a++b):=by
 unfold zgw;rw [vcl];exact zxg b _
theorem zu2 (c:UInt8) (h:zhx c=true):48<=c.toNat/\c.toNat<=57:=by
 simp [zhx] at h;omega
theorem zkv (l:L8) (hd:l.all zhx=false):zf4 l=false:=by unfold zf4;rw [hd];rfl
theorem zkw (c:UInt8):decide (0<=Lib.indexByte signs c)=zss c:=by
 cases h:zss c with
 | true=>
   unfold zss at h;rw [vch] at h;obtain ⟨k,hk,e⟩:=vay h;have hge:=Lib.indexByte_ge signs c;rw [decide_eq_true_iff]
   by_cases hm:Lib.indexByte signs c = -1
   . exact absurd (by rw [vba hk,e]) (Lib.indexByte_none hm k)
   . omega
 | false=>
   rw [decide_eq_false_iff_not];intro hge;obtain ⟨o,ho⟩:=Int.eq_ofNat_of_zero_le hge;have:=(Lib.indexByte_some ho).1;have hm:c ∈ signs:=List.mem_of_getElem? this;unfold zss at h;rw [← vch] at hm;rw [hm] at h;cases h
theorem zpp (s:ByteArray) (h:0<s.size):∃ r,s.data.toList=s[0] :: r/\r.length=s.size - 1:=by
 have:=zhc s 0 h;have hl:=za1 s
 cases hl':s.data.toList with
 | nil=>rw [hl'] at hl;simp at hl;omega
 | cons c r=>rw [hl'] at this hl;simp at this hl;exact ⟨r,by rw [this],by omega⟩
theorem zxh (s:ByteArray) (h:1<s.size) (h0:s[0]=48):zlk s.data.toList=false:=by
 obtain ⟨r,e,hr⟩:=zpp s (by omega);rw [e,h0]
 cases r with
 | nil=>simp at hr;omega
 | cons y r=>rfl
theorem zu3 (s:ByteArray) (h:∀ h1:1<s.size,s[0]≠48):zlk s.data.toList=true:=by
 by_cases h0:s.size=0
 . have:s.data.toList=[]:=vaj (by rw [za1];exact h0)
   rw [this];rfl
 obtain ⟨r,e,hr⟩:=zpp s (by omega);rw [e]
 cases r with
 | nil=>rfl
 | cons y r=>simp at hr;simpa [zlk] using h (by omega)
theorem zmn (s:ByteArray) (k:Nat) (h:k<s.size):zgw (s.data.toList.take (k+1))=10*zgw (s.data.toList.take k)+dv s[k]:=by
 rw [zhc s k h,zu1]
theorem zpq (s:ByteArray) (k:Nat):zgw (s.data.toList.take k)<=zgw s.data.toList:=by
 have:=zku (s.data.toList.take k) (s.data.toList.drop k);rwa [vdh] at this
theorem zu4 (s:ByteArray) (k:Nat) (h:1099511627775<zgw (s.data.toList.take k)):zf4 s.data.toList=false:=by
 have:=zpq s k;unfold zf4
 rw [show decide (zgw s.data.toList<=1099511627775)=false from by simp;omega];simp
theorem zsk (l:L8) (h:zlk l=false):zf4 l=false:=by unfold zf4;rw [h];simp
theorem zu5 (s:ByteArray) (h:s.size=1):ziq s.data.toList=zss s[0]:=by
 obtain ⟨r,e,hr⟩:=zpp s (by omega);have:r=[]:=vaj (by omega)
 rw [e,this];rfl
theorem zpr (s:ByteArray) (h:s.size≠1):ziq s.data.toList=false:=by
 have hl:=za1 s
 cases e:s.data.toList with
 | nil=>rfl
 | cons c r=>
   cases r with
   | nil=>rw [e] at hl;simp at hl;omega
   | cons y r=>rfl
end Lx
end Go.Proofs.YtndkhgakfodldaaGreatDoor
