import Derived.Test.YtndkhgakfodldaaGreatDoorPure
import Derived.Lib.ItoaMem
import Derived.Lib.IndexLaws
namespace Go.Proofs.YtndkhgakfodldaaGreatDoor
namespace Lx
def dv (c:UInt8):Nat:=c.toNat - 48
def valL (l:L8):Nat:=l.foldl (fun n c=>10*n+dv c) 0
def zmb:L8->Bool
 | []=>true
 | [_]=>true
 | c :: _=>c != 48
def zgu (l:L8):Bool:=l.all zhu&&zmb l&&decide (valL l<=1099511627775)
def zj0:L8->Bool
 | [c]=>zuy c
 | _=>false
theorem zw9 (l:L8) (c:UInt8):valL (l++[c])=10*valL l+dv c:=by simp [valL]
theorem z0f (l:L8):∀ n:Nat,n<=l.foldl (fun n c=>10*n+dv c) n:=by
 induction l with
 | nil=>intro n;exact vaa _
 | cons c l ih=>intro n;simp only [List.foldl_cons];have:=ih (10*n+dv c);omega
theorem zlh (a b:L8):valL a<=valL (a++b):=by
 unfold valL;rw [vbn];exact z0f b _
theorem zxa (c:UInt8) (h:zhu c=true):48<=c.toNat/\c.toNat<=57:=by
 simp [zhu] at h;omega
theorem zli (l:L8) (hd:l.all zhu=false):zgu l=false:=by unfold zgu;rw [hd];rfl
theorem zlj (c:UInt8):decide (0<=Lib.indexByte zxz c)=zuy c:=by
 cases h:zuy c with
 | true=>
   unfold zuy at h;rw [vcv] at h;obtain ⟨k,hk,e⟩:=vay h;have Fu:=Lib.indexByte_ge zxz c;rw [decide_eq_true_iff]
   by_cases hm:Lib.indexByte zxz c = -1
   . exact absurd (by rw [vac hk,e]) (Lib.indexByte_none hm k)
   . omega
 | false=>
   rw [decide_eq_false_iff_not];intro Fu;obtain ⟨o,ho⟩:=Int.eq_ofNat_of_zero_le Fu;have:=(Lib.indexByte_some ho).1;have hm:c ∈ zxz:=vdm this;unfold zuy at h;rw [← vcv] at hm;rw [hm] at h;cases h
theorem zrb (s:ByteArray) (h:0<s.size):∃ r,s.data.toList=s[0] :: r/\r.length=s.size - 1:=by
 have:=zg9 s 0 h;have hl:=zbe s
 cases F3:s.data.toList with
 | nil=>rw [F3] at hl;simp at hl;omega
 | cons c r=>rw [F3] at this hl;simp at this hl;exact ⟨r,by rw [this],by omega⟩
theorem z0g (s:ByteArray) (h:1<s.size) (h0:s[0]=48):zmb s.data.toList=false:=by
 obtain ⟨r,e,hr⟩:=zrb s (by omega);rw [e,h0]
 cases r with
 | nil=>simp at hr;omega
 | cons y r=>rfl
theorem zxb (s:ByteArray) (h:∀ h1:1<s.size,s[0]≠48):zmb s.data.toList=true:=by
 by_cases h0:s.size=0
 . have:s.data.toList=[]:=vam (by rw [zbe];exact h0)
   rw [this];rfl
 obtain ⟨r,e,hr⟩:=zrb s (by omega);rw [e]
 cases r with
 | nil=>rfl
 | cons y r=>simp at hr;simpa [zmb] using h (by omega)
theorem znn (s:ByteArray) (k:Nat) (h:k<s.size):valL (s.data.toList.take (k+1))=10*valL (s.data.toList.take k)+dv s[k]:=by
 rw [zg9 s k h,zw9]
theorem zrc (s:ByteArray) (k:Nat):valL (s.data.toList.take k)<=valL s.data.toList:=by
 have:=zlh (s.data.toList.take k) (s.data.toList.drop k);rwa [vcg] at this
theorem zxc (s:ByteArray) (k:Nat) (h:1099511627775<valL (s.data.toList.take k)):zgu s.data.toList=false:=by
 have:=zrc s k;unfold zgu
 rw [show decide (valL s.data.toList<=1099511627775)=false from by simp;omega];simp
theorem zus (l:L8) (h:zmb l=false):zgu l=false:=by unfold zgu;rw [h];simp
theorem zxd (s:ByteArray) (h:s.size=1):zj0 s.data.toList=zuy s[0]:=by
 obtain ⟨r,e,hr⟩:=zrb s (by omega);have:r=[]:=vam (by omega)
 rw [e,this];rfl
theorem zrd (s:ByteArray) (h:s.size≠1):zj0 s.data.toList=false:=by
 have hl:=zbe s
 cases e:s.data.toList with
 | nil=>rfl
 | cons c r=>
   cases r with
   | nil=>rw [e] at hl;simp at hl;omega
   | cons y r=>rfl
end Lx
end Go.Proofs.YtndkhgakfodldaaGreatDoor
