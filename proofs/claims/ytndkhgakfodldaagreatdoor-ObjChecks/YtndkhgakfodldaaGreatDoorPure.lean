/-
  The plain mathematics of tokens: what a name, a sign, a number, a token, a list of tokens and a text of tokens are, said of lists of bytes, without the program.
-/
import Derived.RowKit
import Derived.Lib.Strings
namespace Go.Proofs.YtndkhgakfodldaaGreatDoor
namespace Lx
def letB (c:UInt8):Bool:=decide (97<=(c.toNat:Int))&&decide ((c.toNat:Int)<=122)
def digB (c:UInt8):Bool:=decide (48<=(c.toNat:Int))&&decide ((c.toNat:Int)<=57)
def alnB (c:UInt8):Bool:=letB c||digB c
def headLet:List UInt8->Bool
 | []=>false
 | c :: _=>letB c
def nameB (l:List UInt8):Bool:=headLet l&&decide (l.length<=8)&&l.all alnB
def signs:List UInt8:=[123,125,40,41,91,93,44,59,61,46,43,45,42,47,37,60,33,38,124]
def signB (c:UInt8):Bool:=signs.contains c
theorem take_snoc (s:ByteArray) (k:Nat) (h:k<s.size):s.data.toList.take (k+1)=s.data.toList.take k++[s[k]]:=by
 rw [List.take_succ_eq_append_getElem (by simpa using h)];rfl
theorem len_toList (s:ByteArray):s.data.toList.length=s.size:=Array.length_toList
theorem ne_empty (s:ByteArray) (h:0<s.size):s.toList.isEmpty=false:=by
 rw [Lib.toList_data]
 cases hl:s.data.toList with
 | nil=>have:=len_toList s;rw [hl] at this;simp at this;omega
 | cons=>rfl
theorem head_of (s:ByteArray) (h:0<s.size):headLet s.data.toList=letB s[0]:=by
 have:=take_snoc s 0 h
 cases hl:s.data.toList with
 | nil=>rw [hl] at this;simp at this
 | cons c r=>rw [hl] at this;simp at this;simp [headLet,this]
theorem all_take_snoc (s:ByteArray) (k:Nat) (h:k<s.size) (p:UInt8->Bool):(s.data.toList.take (k+1)).all p=((s.data.toList.take k).all p&&p s[k]):=by
 rw [take_snoc s k h];simp
theorem all_of_take (s:ByteArray) (p:UInt8->Bool):(s.data.toList.take s.size).all p=s.data.toList.all p:=by
 rw [List.take_of_length_le (by rw [len_toList];exact Nat.le_refl _)]
theorem not_all (s:ByteArray) (k:Nat) (h:k<s.size) (p:UInt8->Bool) (hp:p s[k]=false):s.data.toList.all p=false:=by
 have hx:s.data.toList[k]'(by rw [len_toList];exact h)=s[k]:=rfl;rw [List.all_eq_false];refine ⟨s[k],?_,by simp [hp]⟩
 rw [← hx];exact List.getElem_mem _
theorem nameB_empty (s:ByteArray) (h:s.size=0):nameB s.data.toList=false:=by
 have:s.data.toList=[]:=List.eq_nil_of_length_eq_zero (by rw [len_toList];exact h)
 rw [this];rfl
theorem nameB_long (s:ByteArray) (h:8<s.size):nameB s.data.toList=false:=by
 unfold nameB;rw [len_toList,show decide (s.size<=8)=false from by simp;omega];simp
theorem nameB_head (s:ByteArray) (h:0<s.size) (hl:letB s[0]=false):nameB s.data.toList=false:=by
 unfold nameB;rw [head_of s h,hl];simp
theorem nameB_rest (s:ByteArray) (h:0<s.size) (h8:s.size<=8) (hl:letB s[0]=true):nameB s.data.toList=s.data.toList.all alnB:=by
 unfold nameB;rw [head_of s h,hl,len_toList,show decide (s.size<=8)=true from by simp;omega];simp
def runL (l:List UInt8):Nat:=(l.takeWhile alnB).length
def runN (s:ByteArray) (a:Nat):Nat:=runL (s.data.toList.drop a)
theorem runL_at:∀ (l:List UInt8) (k:Nat),(l.take k).all alnB=true->k<=l.length->(∀ h:k<l.length,alnB l[k]=false)->runL l=k
 | [],k,_,hk,_=>by simp at hk;subst hk;rfl
 | c :: l,0,_,_,hs=>by have:=hs (by simp);simp at this;simp [runL,this]
 | c :: l,k+1,ha,hk,hs=>by
   simp only [List.take_succ_cons,List.all_cons,Bool.and_eq_true] at ha;have ih:=runL_at l k ha.2 (by simp at hk;omega) (fun h=>by have:=hs (by simp;omega);simpa using this);simp only [runL] at ih ⊢;rw [List.takeWhile_cons,if_pos ha.1,List.length_cons,ih]
theorem drop_len (s:ByteArray) (a:Nat):(s.data.toList.drop a).length=s.size - a:=by rw [List.length_drop,len_toList]
theorem drop_get (s:ByteArray) (a k:Nat) (h:a+k<s.size):(s.data.toList.drop a)[k]'(by rw [drop_len];omega)=s[a+k]:=by
 rw [List.getElem_drop];rfl
theorem seg_snoc (s:ByteArray) (a k:Nat) (h:a+k<s.size):((s.data.toList.drop a).take (k+1)).all alnB=(((s.data.toList.drop a).take k).all alnB&&alnB s[a+k]):=by
 rw [List.take_succ_eq_append_getElem (by rw [drop_len];omega),drop_get s a k h];simp
theorem runN_end (s:ByteArray) (a k:Nat) (ha:((s.data.toList.drop a).take k).all alnB=true) (h:a+k=s.size):runN s a=k:=
 runL_at _ k ha (by rw [drop_len];omega) (fun hk=>by rw [drop_len] at hk;omega)
theorem runN_stop (s:ByteArray) (a k:Nat) (ha:((s.data.toList.drop a).take k).all alnB=true) (h:a+k<s.size) (hc:alnB s[a+k]=false):runN s a=k:=
 runL_at _ k ha (by rw [drop_len];omega) (fun _=>by rw [drop_get s a k h];exact hc)
def pieceN (s:ByteArray) (a:Nat):Nat:=if runN s a=0 then 1 else runN s a
theorem seg_one (s:ByteArray) (a:Nat) (h:a<s.size):((s.data.toList.drop a).take 1).all alnB=alnB s[a]:=by
 have:=seg_snoc s a 0 (by omega);simpa using this
theorem pieceN_other (s:ByteArray) (a:Nat) (h:a<s.size) (hc:alnB s[a]=false):pieceN s a=1:=by
 have:=runN_stop s a 0 (by simp) (by omega) (by simpa using hc);simp [pieceN,this]
theorem pieceN_of (s:ByteArray) (a k:Nat) (hk:0<k) (h:runN s a=k):pieceN s a=k:=by
 unfold pieceN;rw [h,if_neg (by omega)]
theorem runN_le (s:ByteArray) (a:Nat):runN s a<=s.size - a:=by
 have:=(List.takeWhile_prefix alnB (l:=s.data.toList.drop a)).length_le
 rw [drop_len] at this;exact this
theorem pieceN_pos (s:ByteArray) (a:Nat):0<pieceN s a:=by unfold pieceN;split<;>omega
theorem pieceN_le (s:ByteArray) (a:Nat) (h:a<s.size):a+pieceN s a<=s.size:=by
 have:=runN_le s a;unfold pieceN;split<;>omega
end Lx
end Go.Proofs.YtndkhgakfodldaaGreatDoor

namespace Go.Proofs.YtndkhgakfodldaaGreatDoor
namespace Fx
structure It where
 kind:Int
 n:Int
 at_:Int
 name:ByteArray
structure Fc where
 name:ByteArray
 items:List It
def nameOk (s:ByteArray):Bool:=Lx.nameB s.data.toList
def numOkB (i:It):Bool:=
 if i.kind=1 then decide (0<=i.n)&&decide (i.n<=1099511627775)&&decide (i.at_=0)
 else if i.kind=2 then decide (i.n=0)&&decide (0<=i.at_)&&decide (i.at_<=320)
 else if i.kind=3 then decide (1<=i.n)&&decide (i.n<=32)&&decide (0<=i.at_)&&decide (i.at_<=320)
 else if i.kind=4 then decide (0<=i.n)&&decide (i.n<=3)&&decide (0<=i.at_)&&decide (i.at_<=320)
 else false
def itemOk (i:It):Bool:=nameOk i.name&&numOkB i
def uniqs:List (List UInt8)->List (List UInt8):=List.foldl (fun acc s=>if s ∈ acc then acc else acc++[s]) []
def dupB (l:List (List UInt8)):Bool:=decide ((uniqs l).length<l.length)
theorem uniqs_snoc (l:List (List UInt8)) (s:List UInt8):uniqs (l++[s])=if s ∈ uniqs l then uniqs l else uniqs l++[s]:=by
 unfold uniqs;rw [List.foldl_append];rfl
theorem list_snoc_ind {α:Type} {p:List α->Prop} (h0:p []) (h1:∀ l a,p l->p (l++[a])):∀ l,p l:=by
 intro l
 have:∀ n (l:List α),l.length=n->p l:=by
  intro n
  induction n with
  | zero=>intro l hl;rw [List.eq_nil_of_length_eq_zero hl];exact h0
  | succ n ih=>
    intro l hl
    have hne:l≠[]:=fun e=>by rw [e] at hl;simp at hl
    rw [← List.dropLast_concat_getLast hne];exact h1 _ _ (ih _ (by rw [List.length_dropLast];omega))
 exact this _ l rfl
theorem mem_uniqs (x:List UInt8):∀ l:List (List UInt8),x ∈ uniqs l↔x ∈ l:=by
 apply list_snoc_ind
 . exact Iff.rfl
 . intro l a ih
   rw [uniqs_snoc]
   by_cases h:a ∈ uniqs l
   . rw [if_pos h]
     simp only [List.mem_append,List.mem_singleton]
     constructor
     . intro hx;exact Or.inl (ih.1 hx)
     . rintro (hx | rfl)
       . exact ih.2 hx
       . exact h
   . rw [if_neg h]
     simp only [List.mem_append,List.mem_singleton,ih]
theorem uniqs_len:∀ l:List (List UInt8),(uniqs l).length<=l.length:=by
 apply list_snoc_ind
 . exact Nat.le_refl _
 . intro l a ih
   rw [uniqs_snoc];split
   . rw [List.length_append];simp;omega
   . rw [List.length_append,List.length_append];simp;omega
theorem dup_snoc (l:List (List UInt8)) (s:List UInt8):dupB (l++[s])=(dupB l||decide (s ∈ l)):=by
 have h1:=uniqs_len l
 have h2:(l++[s]).length=l.length+1:=by simp
 unfold dupB;rw [uniqs_snoc,h2]
 by_cases h:s ∈ uniqs l
 . rw [if_pos h,decide_eq_true ((mem_uniqs s l).1 h),Bool.or_true]
   exact decide_eq_true (by omega)
 . rw [if_neg h,decide_eq_false (fun e=>h ((mem_uniqs s l).2 e)),Bool.or_false,show (uniqs l++[s]).length=(uniqs l).length+1 from by simp]
   exact decide_eq_decide.2 (by omega)
def namesOf (l:List It):List (List UInt8):=l.map (·.name.data.toList)
def chkF (f:Fc):Int:=
 if 16<f.items.length then 2 else if nameOk f.name && !dupB (namesOf f.items)&&f.items.all itemOk then 0 else 1
theorem chk_many {f:Fc} (h:16<f.items.length):chkF f=2:=if_pos h
theorem chk_name {f:Fc} (h:¬ 16<f.items.length) (h1:nameOk f.name=false):chkF f=1:=by unfold chkF;rw [if_neg h,h1];rfl
theorem chk_dup {f:Fc} (h:¬ 16<f.items.length) (h1:dupB (namesOf f.items)=true):chkF f=1:=by unfold chkF;rw [if_neg h,h1];simp
theorem chk_item {f:Fc} (h:¬ 16<f.items.length) (h1:f.items.all itemOk=false):chkF f=1:=by unfold chkF;rw [if_neg h,h1];simp
theorem chk_ok {f:Fc} (h:¬ 16<f.items.length) (h0:nameOk f.name=true) (h1:dupB (namesOf f.items)=false) (h2:f.items.all itemOk=true):chkF f=0:=by unfold chkF;rw [if_neg h,h0,h1,h2];rfl
end Fx
end Go.Proofs.YtndkhgakfodldaaGreatDoor
