import Derived.Test.YtndkhgakfodldaaGreatDoorPure
import Derived.Lib.ItoaMem
import Derived.Lib.IndexLaws
namespace Go.Proofs.YtndkhgakfodldaaGreatDoor
namespace Lx
def dv (c:UInt8):Nat:=c.toNat - 48
def valL (l:L8):Nat:=l.foldl (fun n c=>10*n+dv c) 0
def zks:L8->Bool
 | []=>true
 | [_]=>true
 | c :: _=>c != 48
def zfw (l:L8):Bool:=l.all zhd&&zks l&&decide (valL l<=1099511627775)
def zh6:L8->Bool
 | [c]=>zsj c
 | _=>false
theorem zuo (l:L8) (c:UInt8):valL (l++[c])=10*valL l+dv c:=by simp [valL]
theorem zxj (l:L8):∀ n:Nat,n<=l.foldl (fun n c=>10*n+dv c) n:=by
 induction l with
 | nil=>intro n;exact vaa _
 | cons c l ih=>intro n;simp only [List.foldl_cons];have:=ih (10*n+dv c);omega
theorem zj2 (a b:L8):valL a<=valL (a++b):=by
 unfold valL;rw [vcd];exact zxj b _
theorem zup (c:UInt8) (h:zhd c=true):48<=c.toNat/\c.toNat<=57:=by
 simp [zhd] at h;omega
theorem zj3 (l:L8) (hd:l.all zhd=false):zfw l=false:=by unfold zfw;rw [hd];rfl
theorem zj4 (c:UInt8):decide (0<=Lib.indexByte signs c)=zsj c:=by
 cases h:zsj c with
 | true=>
   unfold zsj at h;rw [vcj] at h;obtain ⟨k,hk,e⟩:=vbu h;have hge:=Lib.indexByte_ge signs c;rw [decide_eq_true_iff]
   by_cases hm:Lib.indexByte signs c = -1
   . exact absurd (by rw [vaj hk,e]) (Lib.indexByte_none hm k)
   . omega
 | false=>
   rw [decide_eq_false_iff_not];intro hge;obtain ⟨o,ho⟩:=Int.eq_ofNat_of_zero_le hge;have:=(Lib.indexByte_some ho).1;have hm:c ∈ signs:=List.mem_of_getElem? this;unfold zsj at h;rw [← vcj] at hm;rw [hm] at h;cases h
theorem zpg (s:ByteArray) (h:0<s.size):∃ r,s.data.toList=s[0] :: r/\r.length=s.size - 1:=by
 have:=zgz s 0 h;have hl:=zau s
 cases hl':s.data.toList with
 | nil=>rw [hl'] at hl;simp at hl;omega
 | cons c r=>rw [hl'] at this hl;simp at this hl;exact ⟨r,by rw [this],by omega⟩
theorem zxk (s:ByteArray) (h:1<s.size) (h0:s[0]=48):zks s.data.toList=false:=by
 obtain ⟨r,e,hr⟩:=zpg s (by omega);rw [e,h0]
 cases r with
 | nil=>simp at hr;omega
 | cons y r=>rfl
theorem zuq (s:ByteArray) (h:∀ h1:1<s.size,s[0]≠48):zks s.data.toList=true:=by
 by_cases h0:s.size=0
 . have:s.data.toList=[]:=vam (by rw [zau];exact h0)
   rw [this];rfl
 obtain ⟨r,e,hr⟩:=zpg s (by omega);rw [e]
 cases r with
 | nil=>rfl
 | cons y r=>simp at hr;simpa [zks] using h (by omega)
theorem zlx (s:ByteArray) (k:Nat) (h:k<s.size):valL (s.data.toList.take (k+1))=10*valL (s.data.toList.take k)+dv s[k]:=by
 rw [zgz s k h,zuo]
theorem zph (s:ByteArray) (k:Nat):valL (s.data.toList.take k)<=valL s.data.toList:=by
 have:=zj2 (s.data.toList.take k) (s.data.toList.drop k);rwa [vde] at this
theorem zur (s:ByteArray) (k:Nat) (h:1099511627775<valL (s.data.toList.take k)):zfw s.data.toList=false:=by
 have:=zph s k;unfold zfw
 rw [show decide (valL s.data.toList<=1099511627775)=false from by simp;omega];simp
theorem zsa (l:L8) (h:zks l=false):zfw l=false:=by unfold zfw;rw [h];simp
theorem zus (s:ByteArray) (h:s.size=1):zh6 s.data.toList=zsj s[0]:=by
 obtain ⟨r,e,hr⟩:=zpg s (by omega);have:r=[]:=vam (by omega)
 rw [e,this];rfl
theorem zpi (s:ByteArray) (h:s.size≠1):zh6 s.data.toList=false:=by
 have hl:=zau s
 cases e:s.data.toList with
 | nil=>rfl
 | cons c r=>
   cases r with
   | nil=>rw [e] at hl;simp at hl;omega
   | cons y r=>rfl
end Lx
end Go.Proofs.YtndkhgakfodldaaGreatDoor
