import Derived.Test.YtndkhgakfodldaaGreatDoorPure
import Derived.Lib.ItoaMem
import Derived.Lib.IndexLaws
namespace Go.Proofs.YtndkhgakfodldaaGreatDoor
namespace Lx
def dv (c:UInt8):Nat:=c.toNat - 48
def valL (l:L8):Nat:=l.foldl (fun n c=>10*n+dv c) 0
def zou:L8->Bool
 | []=>true
 | [_]=>true
 | c :: _=>c != 48
def zhz (l:L8):Bool:=l.all zjy&&zou l&&decide (valL l<=1099511627775)
def zkx:L8->Bool
 | [c]=>zxu c
 | _=>false
theorem zz5 (l:L8) (c:UInt8):valL (l++[c])=10*valL l+dv c:=by simp [valL]
theorem z3h (l:L8):∀ n:Nat,n<=l.foldl (fun n c=>10*n+dv c) n:=by
 induction l with
 | nil=>intro n;exact vaa _
 | cons c l ih=>intro n;simp only [List.foldl_cons];have:=ih (10*n+dv c);omega
theorem znq (a b:L8):valL a<=valL (a++b):=by
 unfold valL;rw [vbn];exact z3h b _
theorem zz6 (c:UInt8) (h:zjy c=true):48<=c.toNat/\c.toNat<=57:=by
 simp [zjy] at h;omega
theorem znr (l:L8) (hd:l.all zjy=false):zhz l=false:=by unfold zhz;rw [hd];rfl
theorem zns (c:UInt8):decide (0<=Lib.indexByte signs c)=zxu c:=by
 cases h:zxu c with
 | true=>
   unfold zxu at h;rw [vct] at h;obtain ⟨k,hk,e⟩:=vbd h;have hge:=Lib.indexByte_ge signs c;rw [decide_eq_true_iff]
   by_cases hm:Lib.indexByte signs c = -1
   . exact absurd (by rw [vaj hk,e]) (Lib.indexByte_none hm k)
   . omega
 | false=>
   rw [decide_eq_false_iff_not];intro hge;obtain ⟨o,ho⟩:=Int.eq_ofNat_of_zero_le hge;have:=(Lib.indexByte_some ho).1;have hm:c ∈ signs:=vds this;unfold zxu at h;rw [← vct] at hm;rw [hm] at h;cases h
theorem zud (s:ByteArray) (h:0<s.size):∃ r,s.data.toList=s[0] :: r/\r.length=s.size - 1:=by
 have:=zi9 s 0 h;have hl:=zat s
 cases hl':s.data.toList with
 | nil=>rw [hl'] at hl;simp at hl;omega
 | cons c r=>rw [hl'] at this hl;simp at this hl;exact ⟨r,by rw [this],by omega⟩
theorem z3i (s:ByteArray) (h:1<s.size) (h0:s[0]=48):zou s.data.toList=false:=by
 obtain ⟨r,e,hr⟩:=zud s (by omega);rw [e,h0]
 cases r with
 | nil=>simp at hr;omega
 | cons y r=>rfl
theorem zz7 (s:ByteArray) (h:∀ h1:1<s.size,s[0]≠48):zou s.data.toList=true:=by
 by_cases h0:s.size=0
 . have:s.data.toList=[]:=vao (by rw [zat];exact h0)
   rw [this];rfl
 obtain ⟨r,e,hr⟩:=zud s (by omega);rw [e]
 cases r with
 | nil=>rfl
 | cons y r=>simp at hr;simpa [zou] using h (by omega)
theorem zqi (s:ByteArray) (k:Nat) (h:k<s.size):valL (s.data.toList.take (k+1))=10*valL (s.data.toList.take k)+dv s[k]:=by
 rw [zi9 s k h,zz5]
theorem zue (s:ByteArray) (k:Nat):valL (s.data.toList.take k)<=valL s.data.toList:=by
 have:=znq (s.data.toList.take k) (s.data.toList.drop k);rwa [vca] at this
theorem zz8 (s:ByteArray) (k:Nat) (h:1099511627775<valL (s.data.toList.take k)):zhz s.data.toList=false:=by
 have:=zue s k;unfold zhz
 rw [show decide (valL s.data.toList<=1099511627775)=false from by simp;omega];simp
theorem zxm (l:L8) (h:zou l=false):zhz l=false:=by unfold zhz;rw [h];simp
theorem zz9 (s:ByteArray) (h:s.size=1):zkx s.data.toList=zxu s[0]:=by
 obtain ⟨r,e,hr⟩:=zud s (by omega);have:r=[]:=vao (by omega)
 rw [e,this];rfl
theorem zuf (s:ByteArray) (h:s.size≠1):zkx s.data.toList=false:=by
 have hl:=zat s
 cases e:s.data.toList with
 | nil=>rfl
 | cons c r=>
   cases r with
   | nil=>rw [e] at hl;simp at hl;omega
   | cons y r=>rfl
end Lx
end Go.Proofs.YtndkhgakfodldaaGreatDoor
