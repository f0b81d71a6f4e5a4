import Derived.Test.YtndkhgakfodldaaGreatDoorPure
import Derived.Lib.ItoaMem
import Derived.Lib.IndexLaws
namespace Go.Proofs.YtndkhgakfodldaaGreatDoor
namespace Lx
def dv (c:UInt8):Nat:=c.toNat - 48
def valL (l:L8):Nat:=l.foldl (fun n c=>10*n+dv c) 0
def zkv:L8->Bool
 | []=>true
 | [_]=>true
 | c :: _=>c != 48
def zfy (l:L8):Bool:=l.all zhi&&zkv l&&decide (valL l<=1099511627775)
def zh8:L8->Bool
 | [c]=>zsn c
 | _=>false
theorem zuu (l:L8) (c:UInt8):valL (l++[c])=10*valL l+dv c:=by simp [valL]
theorem zxn (l:L8):∀ n:Nat,n<=l.foldl (fun n c=>10*n+dv c) n:=by
 induction l with
 | nil=>intro n;exact vaa _
 | cons c l ih=>intro n;simp only [List.foldl_cons];have:=ih (10*n+dv c);omega
theorem zj5 (a b:L8):valL a<=valL (a++b):=by
 unfold valL;rw [vcd];exact zxn b _
theorem zuv (c:UInt8) (h:zhi c=true):48<=c.toNat/\c.toNat<=57:=by
 simp [zhi] at h;omega
theorem zj6 (l:L8) (hd:l.all zhi=false):zfy l=false:=by unfold zfy;rw [hd];rfl
theorem zj7 (c:UInt8):decide (0<=Lib.indexByte signs c)=zsn c:=by
 cases h:zsn c with
 | true=>
   unfold zsn at h;rw [vcj] at h;obtain ⟨k,hk,e⟩:=vby h;have hge:=Lib.indexByte_ge signs c;rw [decide_eq_true_iff]
   by_cases hm:Lib.indexByte signs c = -1
   . exact absurd (by rw [vaj hk,e]) (Lib.indexByte_none hm k)
   . omega
 | false=>
   rw [decide_eq_false_iff_not];intro hge;obtain ⟨o,ho⟩:=Int.eq_ofNat_of_zero_le hge;have:=(Lib.indexByte_some ho).1;have hm:c ∈ signs:=List.mem_of_getElem? this;unfold zsn at h;rw [← vcj] at hm;rw [hm] at h;cases h
theorem zph (s:ByteArray) (h:0<s.size):∃ r,s.data.toList=s[0] :: r/\r.length=s.size - 1:=by
 have:=zg3 s 0 h;have hl:=zav s
 cases hl':s.data.toList with
 | nil=>rw [hl'] at hl;simp at hl;omega
 | cons c r=>rw [hl'] at this hl;simp at this hl;exact ⟨r,by rw [this],by omega⟩
theorem zxo (s:ByteArray) (h:1<s.size) (h0:s[0]=48):zkv s.data.toList=false:=by
 obtain ⟨r,e,hr⟩:=zph s (by omega);rw [e,h0]
 cases r with
 | nil=>simp at hr;omega
 | cons y r=>rfl
theorem zuw (s:ByteArray) (h:∀ h1:1<s.size,s[0]≠48):zkv s.data.toList=true:=by
 by_cases h0:s.size=0
 . have:s.data.toList=[]:=vam (by rw [zav];exact h0)
   rw [this];rfl
 obtain ⟨r,e,hr⟩:=zph s (by omega);rw [e]
 cases r with
 | nil=>rfl
 | cons y r=>simp at hr;simpa [zkv] using h (by omega)
theorem zl0 (s:ByteArray) (k:Nat) (h:k<s.size):valL (s.data.toList.take (k+1))=10*valL (s.data.toList.take k)+dv s[k]:=by
 rw [zg3 s k h,zuu]
theorem zpi (s:ByteArray) (k:Nat):valL (s.data.toList.take k)<=valL s.data.toList:=by
 have:=zj5 (s.data.toList.take k) (s.data.toList.drop k);rwa [vde] at this
theorem zux (s:ByteArray) (k:Nat) (h:1099511627775<valL (s.data.toList.take k)):zfy s.data.toList=false:=by
 have:=zpi s k;unfold zfy
 rw [show decide (valL s.data.toList<=1099511627775)=false from by simp;omega];simp
theorem zse (l:L8) (h:zkv l=false):zfy l=false:=by unfold zfy;rw [h];simp
theorem zuy (s:ByteArray) (h:s.size=1):zh8 s.data.toList=zsn s[0]:=by
 obtain ⟨r,e,hr⟩:=zph s (by omega);have:r=[]:=vam (by omega)
 rw [e,this];rfl
theorem zpj (s:ByteArray) (h:s.size≠1):zh8 s.data.toList=false:=by
 have hl:=zav s
 cases e:s.data.toList with
 | nil=>rfl
 | cons c r=>
   cases r with
   | nil=>rw [e] at hl;simp at hl;omega
   | cons y r=>rfl
end Lx
end Go.Proofs.YtndkhgakfodldaaGreatDoor
