import Derived.Test.YtndkhgakfodldaaGreatDoorPure
import Derived.Lib.ItoaMem
import Derived.Lib.IndexLaws
namespace Go.Proofs.YtndkhgakfodldaaGreatDoor
namespace Lx
def dv (c:UInt8):Nat:=c.toNat - 48
def valL (l:L8):Nat:=l.foldl (fun n c=>10*n+dv c) 0
def znu:L8->Bool
 | []=>true
 | [_]=>true
 | c :: _=>c != 48
def zhc (l:L8):Bool:=l.all zi7&&znu l&&decide (valL l<=1099511627775)
def zkd:L8->Bool
 | [c]=>rv c
 | _=>false
theorem FF (l:L8) (c:UInt8):valL (l++[c])=10*valL l+dv c:=by simp [valL]
theorem FG (l:L8):∀ n:Nat,n<=l.foldl (fun n c=>10*n+dv c) n:=by
 induction l with
 | nil=>intro n;exact eD _
 | cons c l aH=>intro n;simp only [List.foldl_cons];have:=aH (10*n+dv c);omega
theorem FH (a b:L8):valL a<=valL (a++b):=by
 unfold valL;rw [mS];exact FG b _
theorem zzl (c:UInt8) (h:zi7 c=true):48<=c.toNat/\c.toNat<=57:=by
 simp [zi7] at h;omega
theorem zmy (l:L8) (ez:l.all zi7=false):zhc l=false:=by unfold zhc;rw [ez];rfl
theorem zmz (c:UInt8):decide (0<=Lib.indexByte signs c)=rv c:=by
 cases h:rv c with
 | true=>
   unfold rv at h;rw [rj] at h;obtain ⟨k,N,e⟩:=kx h;have L:=Lib.indexByte_ge signs c;rw [decide_eq_true_iff]
   by_cases a8:Lib.indexByte signs c = -1
   . exact absurd (by rw [gb N,e]) (Lib.indexByte_none a8 k)
   . omega
 | false=>
   rw [decide_eq_false_iff_not];intro L;obtain ⟨o,aa⟩:=Int.eq_ofNat_of_zero_le L;have:=(Lib.indexByte_some aa).1;have a8:c ∈ signs:=wT this;unfold rv at h;rw [← rj] at a8;rw [a8] at h;cases h
theorem wu (s:ByteArray) (h:0<s.size):∃ O,s.data.toList=s[0] :: O/\O.length=s.size - 1:=by
 have:=ue s 0 h;have a2:=za0 s
 cases j:s.data.toList with
 | nil=>rw [j] at a2;simp at a2;omega
 | cons c O=>rw [j] at this a2;simp at this a2;exact ⟨O,by rw [this],by omega⟩
theorem z2u (s:ByteArray) (h:1<s.size) (a3:s[0]=48):znu s.data.toList=false:=by
 obtain ⟨O,e,W⟩:=wu s (by omega);rw [e,a3]
 cases O with
 | nil=>simp at W;omega
 | cons o O=>rfl
theorem zzm (s:ByteArray) (h:∀ G:1<s.size,s[0]≠48):znu s.data.toList=true:=by
 by_cases a3:s.size=0
 . have:s.data.toList=[]:=ii (by rw [za0];exact a3)
   rw [this];rfl
 obtain ⟨O,e,W⟩:=wu s (by omega);rw [e]
 cases O with
 | nil=>rfl
 | cons o O=>simp at W;simpa [znu] using h (by omega)
theorem zo7 (s:ByteArray) (k:Nat) (h:k<s.size):valL (s.data.toList.take (k+1))=10*valL (s.data.toList.take k)+dv s[k]:=by
 rw [ue s k h,FF]
theorem FI (s:ByteArray) (k:Nat):valL (s.data.toList.take k)<=valL s.data.toList:=by
 have:=FH (s.data.toList.take k) (s.data.toList.drop k);rwa [rk] at this
theorem zzn (s:ByteArray) (k:Nat) (h:1099511627775<valL (s.data.toList.take k)):zhc s.data.toList=false:=by
 have:=FI s k;unfold zhc
 rw [show decide (valL s.data.toList<=1099511627775)=false from by simp;omega];simp
theorem zwv (l:L8) (h:znu l=false):zhc l=false:=by unfold zhc;rw [h];simp
theorem zzo (s:ByteArray) (h:s.size=1):zkd s.data.toList=rv s[0]:=by
 obtain ⟨O,e,W⟩:=wu s (by omega);have:O=[]:=ii (by omega)
 rw [e,this];rfl
theorem ztb (s:ByteArray) (h:s.size≠1):zkd s.data.toList=false:=by
 have a2:=za0 s
 cases e:s.data.toList with
 | nil=>rfl
 | cons c O=>
   cases O with
   | nil=>rw [e] at a2;simp at a2;omega
   | cons o O=>rfl
end Lx
end Go.Proofs.YtndkhgakfodldaaGreatDoor
