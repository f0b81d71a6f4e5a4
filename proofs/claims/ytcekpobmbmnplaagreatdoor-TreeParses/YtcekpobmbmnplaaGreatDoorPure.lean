/-
  The plain mathematics of tokens: what a name, a sign, a number, a token, a list of tokens and a text of tokens are, said of lists of bytes, without the program.
-/
import Derived.RowKit
import Derived.Lib.Strings
import Derived.Test.YtcekpobmbmnplaaGreatDoorProg
import Derived.WalkKit
import Derived.WalkSpells
import Derived.WalkLawsBesides
namespace Go.Proofs.YtcekpobmbmnplaaGreatDoor
namespace Lx
def letB (c:UInt8):Bool:=decide (97<=(c.toNat:Int))&&decide ((c.toNat:Int)<=122)
def digB (c:UInt8):Bool:=decide (48<=(c.toNat:Int))&&decide ((c.toNat:Int)<=57)
def alnB (c:UInt8):Bool:=letB c||digB c
def headLet:List UInt8->Bool
 | []=>false
 | c :: _=>letB c
def nameB (l:List UInt8):Bool:=headLet l&&decide (l.length<=8)&&l.all alnB
def signs:List UInt8:=[123,125,40,41,91,93,44,59,61,46,43,45,42,47,37,60,33,38,124]
def signB (c:UInt8):Bool:=signs.contains c
theorem zid (s:ByteArray) (k:Nat) (h:k<s.size):s.data.toList.take (k+1)=s.data.toList.take k++[s[k]]:=by
 rw [List.take_succ_eq_append_getElem (by simpa using h)];rfl
theorem len_toList (s:ByteArray):s.data.toList.length=s.size:=Array.length_toList
theorem ne_empty (s:ByteArray) (h:0<s.size):s.toList.isEmpty=false:=by
 rw [Lib.toList_data]
 cases hl:s.data.toList with
 | nil=>have:=len_toList s;rw [hl] at this;simp at this;omega
 | cons=>rfl
theorem zve (s:ByteArray) (h:0<s.size):headLet s.data.toList=letB s[0]:=by
 have:=zid s 0 h
 cases hl:s.data.toList with
 | nil=>rw [hl] at this;simp at this
 | cons c r=>rw [hl] at this;simp at this;simp [headLet,this]
theorem all_take_snoc (s:ByteArray) (k:Nat) (h:k<s.size) (p:UInt8->Bool):(s.data.toList.take (k+1)).all p=((s.data.toList.take k).all p&&p s[k]):=by
 rw [zid s k h];simp
theorem all_of_take (s:ByteArray) (p:UInt8->Bool):(s.data.toList.take s.size).all p=s.data.toList.all p:=by
 rw [List.take_of_length_le (by rw [len_toList];exact Nat.le_refl _)]
theorem not_all (s:ByteArray) (k:Nat) (h:k<s.size) (p:UInt8->Bool) (hp:p s[k]=false):s.data.toList.all p=false:=by
 have hx:s.data.toList[k]'(by rw [len_toList];exact h)=s[k]:=rfl;rw [List.all_eq_false];refine ⟨s[k],?_,by simp [hp]⟩
 rw [← hx];exact List.getElem_mem _
theorem nameB_empty (s:ByteArray) (h:s.size=0):nameB s.data.toList=false:=by
 have:s.data.toList=[]:=List.eq_nil_of_length_eq_zero (by rw [len_toList];exact h)
 rw [this];rfl
theorem nameB_long (s:ByteArray) (h:8<s.size):nameB s.data.toList=false:=by
 unfold nameB;rw [len_toList,show decide (s.size<=8)=false from by simp;omega];simp
theorem nameB_head (s:ByteArray) (h:0<s.size) (hl:letB s[0]=false):nameB s.data.toList=false:=by
 unfold nameB;rw [zve s h,hl];simp
theorem nameB_rest (s:ByteArray) (h:0<s.size) (h8:s.size<=8) (hl:letB s[0]=true):nameB s.data.toList=s.data.toList.all alnB:=by
 unfold nameB;rw [zve s h,hl,len_toList,show decide (s.size<=8)=true from by simp;omega];simp
def runL (l:List UInt8):Nat:=(l.takeWhile alnB).length
def runN (s:ByteArray) (a:Nat):Nat:=runL (s.data.toList.drop a)
theorem runL_at:∀ (l:List UInt8) (k:Nat),(l.take k).all alnB=true->k<=l.length->(∀ h:k<l.length,alnB l[k]=false)->runL l=k
 | [],k,_,hk,_=>by simp at hk;subst hk;rfl
 | c :: l,0,_,_,hs=>by have:=hs (by simp);simp at this;simp [runL,this]
 | c :: l,k+1,ha,hk,hs=>by
   simp only [List.take_succ_cons,List.all_cons,Bool.and_eq_true] at ha;have ih:=runL_at l k ha.2 (by simp at hk;omega) (fun h=>by have:=hs (by simp;omega);simpa using this);simp only [runL] at ih ⊢;rw [List.takeWhile_cons,if_pos ha.1,List.length_cons,ih]
theorem zg3 (s:ByteArray) (a:Nat):(s.data.toList.drop a).length=s.size - a:=by rw [List.length_drop,len_toList]
theorem zri (s:ByteArray) (a k:Nat) (h:a+k<s.size):(s.data.toList.drop a)[k]'(by rw [zg3];omega)=s[a+k]:=by
 rw [List.getElem_drop];rfl
theorem seg_snoc (s:ByteArray) (a k:Nat) (h:a+k<s.size):((s.data.toList.drop a).take (k+1)).all alnB=(((s.data.toList.drop a).take k).all alnB&&alnB s[a+k]):=by
 rw [List.take_succ_eq_append_getElem (by rw [zg3];omega),zri s a k h];simp
theorem runN_end (s:ByteArray) (a k:Nat) (ha:((s.data.toList.drop a).take k).all alnB=true) (h:a+k=s.size):runN s a=k:=
 runL_at _ k ha (by rw [zg3];omega) (fun hk=>by rw [zg3] at hk;omega)
theorem runN_stop (s:ByteArray) (a k:Nat) (ha:((s.data.toList.drop a).take k).all alnB=true) (h:a+k<s.size) (hc:alnB s[a+k]=false):runN s a=k:=
 runL_at _ k ha (by rw [zg3];omega) (fun _=>by rw [zri s a k h];exact hc)
def pieceN (s:ByteArray) (a:Nat):Nat:=if runN s a=0 then 1 else runN s a
theorem seg_one (s:ByteArray) (a:Nat) (h:a<s.size):((s.data.toList.drop a).take 1).all alnB=alnB s[a]:=by
 have:=seg_snoc s a 0 (by omega);simpa using this
theorem pieceN_other (s:ByteArray) (a:Nat) (h:a<s.size) (hc:alnB s[a]=false):pieceN s a=1:=by
 have:=runN_stop s a 0 (by simp) (by omega) (by simpa using hc);simp [pieceN,this]
theorem pieceN_of (s:ByteArray) (a k:Nat) (hk:0<k) (h:runN s a=k):pieceN s a=k:=by
 unfold pieceN;rw [h,if_neg (by omega)]
theorem runN_le (s:ByteArray) (a:Nat):runN s a<=s.size - a:=by
 have:=(List.takeWhile_prefix alnB (l:=s.data.toList.drop a)).length_le
 rw [zg3] at this;exact this
theorem pieceN_pos (s:ByteArray) (a:Nat):0<pieceN s a:=by unfold pieceN;split<;>omega
theorem pieceN_le (s:ByteArray) (a:Nat) (h:a<s.size):a+pieceN s a<=s.size:=by
 have:=runN_le s a;unfold pieceN;split<;>omega
theorem signs_has (k:Nat) (c:UInt8) (h:k<signs.length) (hc:signs[k]=c):signB c=true:=by
 unfold signB;rw [List.contains_iff_mem];rw [← hc];exact List.getElem_mem _
theorem signs_none (c:UInt8) (h:∀ j (hj:j<signs.length),signs[j]≠c):signB c=false:=by
 unfold signB;rw [Bool.eq_false_iff,Ne,List.contains_iff_mem];intro hm;obtain ⟨j,hj,e⟩:=List.getElem_of_mem hm;exact h j hj e
end Lx
end Go.Proofs.YtcekpobmbmnplaaGreatDoor

namespace Go.Proofs.YtcekpobmbmnplaaGreatDoor
set_option maxRecDepth 100000
set_option maxHeartbeats 400000
open Go.RowKit
theorem zaa {a b:Bool} (h:a=b):Ending.returned (.bool a) = .returned (.bool b):=by rw [h]
theorem zcp {k:IntKind} {a b:Int} (h:a=b):Ending.returned (.int k a) = .returned (.int k b):=by rw [h]
theorem zb2 (c:UInt8) (w:World) :
 Calls Tryz.prog 102 #[.int .u8 c.toNat] w fun e w'=>e = .returned (.bool (Lx.letB c))/\w'=w:=by
 go_enter Tryz.func102,Tryz.ntmps102
 go_wp2
 all_goals go_ret
 . exact ⟨zaa (by simp [Lx.letB, *]),rfl⟩
 . exact ⟨zaa (by simp [Lx.letB];omega),rfl⟩
theorem zdy (c:UInt8) (w:World) :
 Calls Tryz.prog 89 #[.int .u8 c.toNat] w fun e w'=>e = .returned (.bool (Lx.letB c))/\w'=w:=by
 go_enter Tryz.func89,Tryz.ntmps89
 go_wp2
 all_goals go_ret
 . exact ⟨zaa (by simp [Lx.letB, *]),rfl⟩
 . exact ⟨zaa (by simp [Lx.letB];omega),rfl⟩
theorem zct (c:UInt8) (w:World) :
 Calls Tryz.prog 103 #[.int .u8 c.toNat] w fun e w'=>e = .returned (.bool (Lx.digB c))/\w'=w:=by
 go_enter Tryz.func103,Tryz.ntmps103
 go_wp2
 all_goals go_ret
 . exact ⟨zaa (by simp [Lx.digB, *]),rfl⟩
 . exact ⟨zaa (by simp [Lx.digB];omega),rfl⟩
theorem zfl (c:UInt8) (w:World) :
 Calls Tryz.prog 90 #[.int .u8 c.toNat] w fun e w'=>e = .returned (.bool (Lx.digB c))/\w'=w:=by
 go_enter Tryz.func90,Tryz.ntmps90
 go_wp2
 all_goals go_ret
 . exact ⟨zaa (by simp [Lx.digB, *]),rfl⟩
 . exact ⟨zaa (by simp [Lx.digB];omega),rfl⟩
theorem zeu (n lo hi:Int) (w:World) :
 Calls Tryz.prog 44 #[.int .i64 n,.int .i64 lo,.int .i64 hi] w fun e w'=>e = .returned (.bool (decide (lo<=n)&&decide (n<=hi)))/\w'=w:=by
 go_enter Tryz.func44,Tryz.ntmps44
 go_wp2
 all_goals go_ret
 . exact ⟨zaa (by simp [*]),rfl⟩
 . exact ⟨zaa (by simp;omega),rfl⟩
theorem zg0 (s:ByteArray) (w:World) (hs:s.size<=maxLen) :
 Calls Tryz.prog 105 #[.string s] w fun e w'=>e = .returned (.bool (Lx.nameB s.data.toList))/\w'=w:=by
 unfold maxLen at hs
 by_cases h0:s.size=0
 . have hE:s=⟨#[]⟩:=ByteArray.ext (Array.eq_empty_of_size_eq_zero h0)
   have HN:Hid (Lx.nameB s.data.toList=false):=Lx.nameB_empty s h0;subst hE;clear h0;go_enter Tryz.func105,Tryz.ntmps105;go_wp2_with fail;go_ret;exact ⟨zaa HN.out.symm,rfl⟩
 have h1:0<s.size:=by omega
 have hne:s.toList.isEmpty=false:=Lx.ne_empty s h1;clear h0
 by_cases h8:8<s.size
 . have HN:Hid (Lx.nameB s.data.toList=false):=Lx.nameB_long s h8
   go_enter Tryz.func105,Tryz.ntmps105;go_wp2_with fail;go_ret;exact ⟨zaa HN.out.symm,rfl⟩
 by_cases hl:Lx.letB s[0]=true
 . have HN:Hid (Lx.nameB s.data.toList=s.data.toList.all Lx.alnB):=Lx.nameB_rest s h1 (by omega) hl
   go_enter Tryz.func105,Tryz.ntmps105
   go_wp2_with (go_at_call 102;refine (zb2 _ _).mono ?_;rintro e w' ⟨rfl,rfl⟩)
   go_loop [19,3] (fun i _=>∃ k:Nat,k<=s.size/\i = .int .i64 k/\(s.data.toList.take k).all Lx.alnB=true) (fun i _=>s.size - (intOf i).toNat)
   case atStart=>exact ⟨0,Nat.zero_le _,rfl,rfl⟩
   case round=>
    obtain ⟨k,hk,rfl,hall⟩:=hrel;have HA:Hid ((s.data.toList.take k).all Lx.alnB=true):=hall;clear hall
    by_cases hlt:k<s.size
    . have hst:=Lx.all_take_snoc s k hlt Lx.alnB
      have HS:Hid ((s.data.toList.take (k+1)).all Lx.alnB=((s.data.toList.take k).all Lx.alnB&&Lx.alnB s[k])):=hst;clear hst
      by_cases hc:Lx.letB s[k]=true
      . go_wp2_with (go_at_call 102;refine (zb2 _ _).mono ?_;rintro e w' ⟨rfl,rfl⟩)
        go_round
        case rel=>exact ⟨k+1,by omega,by go_num,by rw [HS.out,HA.out];simp [Lx.alnB,hc]⟩
        case measure=>simp [intOf];omega
      . have hc':Lx.letB s[k]=false:=by simpa using hc
        clear hc
        by_cases hd:Lx.digB s[k]=true
        . go_wp2_with (first | (go_at_call 102;refine (zb2 _ _).mono ?_;rintro e w' ⟨rfl,rfl⟩) | (go_at_call 103;refine (zct _ _).mono ?_;rintro e w' ⟨rfl,rfl⟩))
          go_round
          case rel=>exact ⟨k+1,by omega,by go_num,by rw [HS.out,HA.out];simp [Lx.alnB,hd]⟩
          case measure=>simp [intOf];omega
        . have hd':Lx.digB s[k]=false:=by simpa using hd
          clear hd;have HF:Hid (s.data.toList.all Lx.alnB=false):=Lx.not_all s k hlt _ (by simp [Lx.alnB,hc',hd'])
          go_wp2_with (first | (go_at_call 102;refine (zb2 _ _).mono ?_;rintro e w' ⟨rfl,rfl⟩) | (go_at_call 103;refine (zct _ _).mono ?_;rintro e w' ⟨rfl,rfl⟩))
          go_ret;exact ⟨zaa (by rw [HN.out,HF.out]),rfl⟩
    . obtain rfl:k=s.size:=by omega
      go_wp2
      go_ret;exact ⟨zaa (by rw [HN.out,← Lx.all_of_take,HA.out]),rfl⟩
 . have hl':Lx.letB s[0]=false:=by simpa using hl
   clear hl;have HN:Hid (Lx.nameB s.data.toList=false):=Lx.nameB_head s h1 hl';go_enter Tryz.func105,Tryz.ntmps105
   go_wp2_with (go_at_call 102;refine (zb2 _ _).mono ?_;rintro e w' ⟨rfl,rfl⟩)
   go_ret;exact ⟨zaa HN.out.symm,rfl⟩
end Go.Proofs.YtcekpobmbmnplaaGreatDoor

namespace Go.Proofs.YtcekpobmbmnplaaGreatDoor
set_option maxRecDepth 100000
set_option maxHeartbeats 400000
open Go.RowKit
theorem zfm (s:ByteArray) (w:World) (hs:s.size<=maxLen) :
 Calls Tryz.prog 49 #[.string s] w fun e w'=>e = .returned (.bool (Lx.nameB s.data.toList))/\w'=w:=by
 unfold maxLen at hs
 by_cases h1:¬ (0<s.size/\s.size<=8)
 . have HN:Hid (Lx.nameB s.data.toList=false):=by
    by_cases h0:s.size=0
    . exact Lx.nameB_empty s h0
    . exact Lx.nameB_long s (by omega)
   have hw:(decide (1<=(s.size:Int))&&decide ((s.size:Int)<=8))=false:=by simp;omega
   clear h1;go_enter Tryz.func49,Tryz.ntmps49
   go_wp2_with (go_at_call 44;refine (zeu _ _ _ _).mono ?_;rintro e w' ⟨rfl,rfl⟩)
   go_ret;exact ⟨zaa HN.out.symm,rfl⟩
 obtain ⟨h1,h8⟩:=Classical.not_not.1 h1
 have hw:(decide (1<=(s.size:Int))&&decide ((s.size:Int)<=8))=true:=by simp;omega
 by_cases hl:Lx.letB s[0]=true
 . have HN:Hid (Lx.nameB s.data.toList=s.data.toList.all Lx.alnB):=Lx.nameB_rest s h1 (by omega) hl
   go_enter Tryz.func49,Tryz.ntmps49
   go_wp2_with (first | (go_at_call 44;refine (zeu _ _ _ _).mono ?_;rintro e w' ⟨rfl,rfl⟩) | (go_at_call 89;refine (zdy _ _).mono ?_;rintro e w' ⟨rfl,rfl⟩))
   go_loop [3] (fun i=>∃ k:Nat,k<=s.size/\i = .int .i64 k/\(s.data.toList.take k).all Lx.alnB=true) (fun i=>s.size - (intOf i).toNat)
   case atStart=>exact ⟨0,Nat.zero_le _,rfl,rfl⟩
   case round=>
    obtain ⟨k,hk,rfl,hall⟩:=hrel;have HA:Hid ((s.data.toList.take k).all Lx.alnB=true):=hall;clear hall
    by_cases hlt:k<s.size
    . have hst:=Lx.all_take_snoc s k hlt Lx.alnB
      have HS:Hid ((s.data.toList.take (k+1)).all Lx.alnB=((s.data.toList.take k).all Lx.alnB&&Lx.alnB s[k])):=hst;clear hst
      by_cases hc:Lx.letB s[k]=true
      . go_wp2_with (go_at_call 89;refine (zdy _ _).mono ?_;rintro e w' ⟨rfl,rfl⟩)
        go_round
        case rel=>exact ⟨k+1,by omega,by go_num,by rw [HS.out,HA.out];simp [Lx.alnB,hc]⟩
        case measure=>simp [intOf];omega
      . have hc':Lx.letB s[k]=false:=by simpa using hc
        clear hc
        by_cases hd:Lx.digB s[k]=true
        . go_wp2_with (first | (go_at_call 89;refine (zdy _ _).mono ?_;rintro e w' ⟨rfl,rfl⟩) | (go_at_call 90;refine (zfl _ _).mono ?_;rintro e w' ⟨rfl,rfl⟩))
          go_round
          case rel=>exact ⟨k+1,by omega,by go_num,by rw [HS.out,HA.out];simp [Lx.alnB,hd]⟩
          case measure=>simp [intOf];omega
        . have hd':Lx.digB s[k]=false:=by simpa using hd
          clear hd;have HF:Hid (s.data.toList.all Lx.alnB=false):=Lx.not_all s k hlt _ (by simp [Lx.alnB,hc',hd'])
          go_wp2_with (first | (go_at_call 89;refine (zdy _ _).mono ?_;rintro e w' ⟨rfl,rfl⟩) | (go_at_call 90;refine (zfl _ _).mono ?_;rintro e w' ⟨rfl,rfl⟩))
          go_ret;exact ⟨zaa (by rw [HN.out,HF.out]),rfl⟩
    . obtain rfl:k=s.size:=by omega
      go_wp2
      go_ret;exact ⟨zaa (by rw [HN.out,← Lx.all_of_take,HA.out]),rfl⟩
 . have hl':Lx.letB s[0]=false:=by simpa using hl
   clear hl;have HN:Hid (Lx.nameB s.data.toList=false):=Lx.nameB_head s h1 hl';go_enter Tryz.func49,Tryz.ntmps49
   go_wp2_with (first | (go_at_call 44;refine (zeu _ _ _ _).mono ?_;rintro e w' ⟨rfl,rfl⟩) | (go_at_call 89;refine (zdy _ _).mono ?_;rintro e w' ⟨rfl,rfl⟩))
   go_ret;exact ⟨zaa HN.out.symm,rfl⟩
def zgg:ByteArray:=⟨#[123,125,40,41,91,93,44,59,61,46,43,45,42,47,37,60,33,38,124]⟩
theorem zum (w:World):Calls Tryz.prog 92 #[] w fun e w'=>e = .returned (.string zgg)/\w'=w:=by
 go_enter Tryz.func92,Tryz.ntmps92
 go_wp2
 go_ret;exact ⟨rfl,rfl⟩
theorem zob:zgg.size=19:=rfl
theorem zpp (k:Nat) (h:k<zgg.size):zgg[k]=Lx.signs[k]'h:=rfl
theorem zc9 (c:UInt8) (w:World) :
 Calls Tryz.prog 51 #[.int .u8 c.toNat] w fun e w'=>e = .returned (.bool (Lx.signB c))/\w'=w:=by
 go_enter Tryz.func51,Tryz.ntmps51
 go_wp2_with (go_at_call 92;refine (zum _).mono ?_;rintro e w' ⟨rfl,rfl⟩)
 have hsz:=zob;generalize hS:zgg=S at *;have HS:Hid (zgg=S):=hS;clear hS
 go_loop [4] (fun i=>∃ k:Nat,k<=S.size/\i = .int .i64 k/\∀ j (hj:j<Lx.signs.length),j<k->Lx.signs[j]≠c) (fun i=>S.size - (intOf i).toNat)
 case atStart=>exact ⟨0,Nat.zero_le _,rfl,fun j _ h=>by omega⟩
 case round=>
  obtain ⟨k,hk,rfl,hall⟩:=hrel;have HA:Hid (∀ j (hj:j<Lx.signs.length),j<k->Lx.signs[j]≠c):=hall;clear hall
  by_cases hlt:k<S.size
  . have hl:k<Lx.signs.length:=by have:Lx.signs.length=19:=rfl;omega
    have HG:Hid (S[k]=Lx.signs[k]):=by have:=HS.out;subst this;exact zpp k hlt
    by_cases hc:S[k]=c
    . have hcb:(((S[k].toNat:Nat):Int) == ((c.toNat:Nat):Int))=true:=by rw [hc];simp
      have HC:Hid (Lx.signB c=true):=Lx.signs_has k c hl (by rw [← HG.out];exact hc);clear hc;go_wp2_with fail;go_ret;exact ⟨zaa HC.out.symm,rfl⟩
    . have hcb:(((S[k].toNat:Nat):Int) == ((c.toNat:Nat):Int))=false:=by
       rw [beq_eq_false_iff_ne];intro h;exact hc (UInt8.toNat_inj.1 (by omega))
      have HC:Hid (Lx.signs[k]≠c):=by rw [← HG.out];exact hc
      clear hc;go_wp2_with fail
      go_round
      case rel=>exact ⟨k+1,by omega,by go_num,fun j hj hjk=>by
       by_cases e:j=k
       . subst e;exact HC.out
       . exact HA.out j hj (by omega)⟩
      case measure=>simp [intOf];omega
  . go_wp2
    go_ret;exact ⟨zaa (Lx.signs_none c (fun j hj=>HA.out j hj (by have:Lx.signs.length=19:=rfl;omega))).symm,rfl⟩
theorem zun (s:ByteArray) (a:Nat) (w:World) (hs:s.size<=maxLen) (ha:a<=s.size) :
 Calls Tryz.prog 48 #[.string s,.int .i64 a] w fun e w'=>e = .returned (.int .i64 (Lx.runN s a))/\w'=w:=by
 unfold maxLen at hs;go_enter Tryz.func48,Tryz.ntmps48;go_wp2_with fail
 go_loop [5] (fun i=>∃ k:Nat,a+k<=s.size/\i = .int .i64 k/\((s.data.toList.drop a).take k).all Lx.alnB=true) (fun i=>s.size - (intOf i).toNat)
 case atStart=>exact ⟨0,by omega,rfl,by simp⟩
 case round=>
  obtain ⟨k,hk,rfl,hall⟩:=hrel;have HA:Hid (((s.data.toList.drop a).take k).all Lx.alnB=true):=hall;clear hall
  by_cases hlt:a+k<s.size
  . have HS:Hid (((s.data.toList.drop a).take (k+1)).all Lx.alnB=(((s.data.toList.drop a).take k).all Lx.alnB&&Lx.alnB s[a+k])):=Lx.seg_snoc s a k hlt
    by_cases hc:Lx.letB s[a+k]=true
    . go_wp2_with (go_at_call 89;refine (zdy _ _).mono ?_;rintro e w' ⟨rfl,rfl⟩)
      go_round
      case rel=>exact ⟨k+1,by omega,by go_num,by rw [HS.out,HA.out];simp [Lx.alnB,hc]⟩
      case measure=>simp [intOf];omega
    . have hc':Lx.letB s[a+k]=false:=by simpa using hc
      clear hc
      by_cases hd:Lx.digB s[a+k]=true
      . go_wp2_with (first | (go_at_call 89;refine (zdy _ _).mono ?_;rintro e w' ⟨rfl,rfl⟩) | (go_at_call 90;refine (zfl _ _).mono ?_;rintro e w' ⟨rfl,rfl⟩))
        go_round
        case rel=>exact ⟨k+1,by omega,by go_num,by rw [HS.out,HA.out];simp [Lx.alnB,hd]⟩
        case measure=>simp [intOf];omega
      . have hd':Lx.digB s[a+k]=false:=by simpa using hd
        clear hd;have HF:Hid (Lx.runN s a=k):=Lx.runN_stop s a k HA.out hlt (by simp [Lx.alnB,hc',hd'])
        go_wp2_with (first | (go_at_call 89;refine (zdy _ _).mono ?_;rintro e w' ⟨rfl,rfl⟩) | (go_at_call 90;refine (zfl _ _).mono ?_;rintro e w' ⟨rfl,rfl⟩))
        go_ret;exact ⟨zcp (by rw [HF.out]),rfl⟩
  . go_wp2_with fail
    go_ret;exact ⟨zcp (by rw [Lx.runN_end s a k HA.out (by omega)]),rfl⟩
theorem zoc (s:ByteArray) (a:Nat) (w:World) (hs:s.size<=maxLen) (ha:a<s.size) :
 Calls Tryz.prog 64 #[.string s,.int .i64 a] w fun e w'=>e = .returned (.int .i64 ((a+Lx.pieceN s a:Nat):Int))/\w'=w:=by
 unfold maxLen at hs
 by_cases hal:Lx.alnB s[a]=true
 . have key : ∀ w:World,Calls Tryz.prog 64 #[.string s,.int .i64 a] w fun e w'=>e = .returned (.int .i64 ((a+Lx.pieceN s a:Nat):Int))/\w'=w:=by
    intro w
    have H1:Hid (((s.data.toList.drop a).take 1).all Lx.alnB=true):=by
     show ((s.data.toList.drop a).take 1).all Lx.alnB=true
     rw [Lx.seg_one s a ha];exact hal
    have H2:Hid (Lx.letB s[a]=true\/Lx.letB s[a]=false/\Lx.digB s[a]=true):=by
     show Lx.letB s[a]=true\/Lx.letB s[a]=false/\Lx.digB s[a]=true;unfold Lx.alnB at hal
     cases h:Lx.letB s[a] with
     | true=>exact Or.inl rfl
     | false=>rw [h] at hal;exact Or.inr ⟨rfl,by simpa using hal⟩
    clear hal
    rcases H2.out with hl | ⟨hl,hd⟩
    all_goals
     go_enter Tryz.func64,Tryz.ntmps64
     go_wp2_with (first | (go_at_call 102;refine (zb2 _ _).mono ?_;rintro e w' ⟨rfl,rfl⟩) | (go_at_call 103;refine (zct _ _).mono ?_;rintro e w' ⟨rfl,rfl⟩))
     go_loop [5] (fun i=>∃ k:Nat,0<k/\a+k<=s.size/\i = .int .i64 ((a+k:Nat):Int)/\((s.data.toList.drop a).take k).all Lx.alnB=true) (fun i=>s.size - (intOf i).toNat)
     case atStart=>exact ⟨1,by omega,by omega,by go_num,H1.out⟩
     case round=>
      obtain ⟨k,hk0,hk,rfl,hall⟩:=hrel;have HA:Hid (((s.data.toList.drop a).take k).all Lx.alnB=true):=hall;clear hall hl H2
      try clear hd
      by_cases hlt:a+k<s.size
      . have HS:Hid (((s.data.toList.drop a).take (k+1)).all Lx.alnB=(((s.data.toList.drop a).take k).all Lx.alnB&&Lx.alnB s[a+k])):=Lx.seg_snoc s a k hlt
        by_cases hc:Lx.letB s[a+k]=true
        . go_wp2_with (first | (go_at_call 102;refine (zb2 _ _).mono ?_;rintro e w' ⟨rfl,rfl⟩) | (go_at_call 103;refine (zct _ _).mono ?_;rintro e w' ⟨rfl,rfl⟩))
          go_round
          case rel=>exact ⟨k+1,by omega,by omega,by go_num,by rw [HS.out,HA.out];simp [Lx.alnB,hc]⟩
          case measure=>simp [intOf];omega
        . have hc':Lx.letB s[a+k]=false:=by simpa using hc
          clear hc
          by_cases hd:Lx.digB s[a+k]=true
          . go_wp2_with (first | (go_at_call 102;refine (zb2 _ _).mono ?_;rintro e w' ⟨rfl,rfl⟩) | (go_at_call 103;refine (zct _ _).mono ?_;rintro e w' ⟨rfl,rfl⟩))
            go_round
            case rel=>exact ⟨k+1,by omega,by omega,by go_num,by rw [HS.out,HA.out];simp [Lx.alnB,hd]⟩
            case measure=>simp [intOf];omega
          . have hd':Lx.digB s[a+k]=false:=by simpa using hd
            clear hd;have HF:Hid (Lx.pieceN s a=k):=Lx.pieceN_of s a k hk0 (Lx.runN_stop s a k HA.out hlt (by simp [Lx.alnB,hc',hd']))
            go_wp2_with (first | (go_at_call 102;refine (zb2 _ _).mono ?_;rintro e w' ⟨rfl,rfl⟩) | (go_at_call 103;refine (zct _ _).mono ?_;rintro e w' ⟨rfl,rfl⟩))
            go_ret;exact ⟨zcp (by rw [HF.out]<;>omega),rfl⟩
      . have HF:Hid (Lx.pieceN s a=k):=Lx.pieceN_of s a k hk0 (Lx.runN_end s a k HA.out (by omega))
        go_wp2_with fail;go_ret;exact ⟨zcp (by rw [HF.out]<;>omega),rfl⟩
   exact key w
 . have hal':Lx.alnB s[a]=false:=by simpa using hal
   have HF:Hid (Lx.pieceN s a=1):=Lx.pieceN_other s a ha hal'
   have hl:Lx.letB s[a]=false:=by unfold Lx.alnB at hal';simp at hal';exact hal'.1
   have hd:Lx.digB s[a]=false:=by unfold Lx.alnB at hal';simp at hal';exact hal'.2
   clear hal hal';go_enter Tryz.func64,Tryz.ntmps64
   go_wp2_with (first | (go_at_call 102;refine (zb2 _ _).mono ?_;rintro e w' ⟨rfl,rfl⟩) | (go_at_call 103;refine (zct _ _).mono ?_;rintro e w' ⟨rfl,rfl⟩))
   go_ret;exact ⟨zcp (by rw [HF.out]<;>omega),rfl⟩
end Go.Proofs.YtcekpobmbmnplaaGreatDoor
