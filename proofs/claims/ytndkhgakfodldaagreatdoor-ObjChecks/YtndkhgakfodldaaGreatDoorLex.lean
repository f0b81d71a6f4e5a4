/-
  The program's Lex answers the tokens of the text or its error; the comparison of two lists of the same tokens answers true.
-/
import Derived.Test.YtndkhgakfodldaaGreatDoorStep
import Derived.Deep.QuietTactic
import Derived.BigQuiet
import Derived.Test.YtndkhgakfodldaaGreatDoorPj
import Derived.Test.YtndkhgakfodldaaGreatDoorTd
namespace Go.Proofs.YtndkhgakfodldaaGreatDoor
set_option maxRecDepth 100000
set_option maxHeartbeats 400000
open Go.RowKit
theorem Lex_any (s:ByteArray) (w:World) (hs:s.size<=maxLen) :
 Calls Tryz.prog 114 #[.string s] w fun e w'=>∃ a cap,e = .returned (.tuple #[.slice a (lexT s).length cap,.int .i64 (lexE s)])/\ToksAt w' a (lexT s)/\Below w.heap.size w w':=by
 unfold maxLen at hs
 by_cases hlong:4096<s.size
 . have HE:Hid (lexT s=[]/\lexE s=2):=lex_long hlong
   go_enter Tryz.func114,Tryz.ntmps114;go_wp2_with fail;go_ret2;exact ⟨none,0,by rw [HE.out.1,HE.out.2];rfl,by rw [HE.out.1];exact Or.inl rfl,Below.refl _ _⟩
 . have HC:Hid (Calls Tryz.prog 157 #[.string s] w fun e w'=>∃ a cap,e = .returned (.tuple #[.slice a (lexT s).length cap,.int .i64 (lexE s)])/\ToksAt w' a (lexT s)/\Below w.heap.size w w'):=tokens_any s w (by omega)
   generalize lexT s=ts at *;generalize lexE s=n at *;go_enter Tryz.func114,Tryz.ntmps114;go_wp2_with fail;refine HC.out.mono ?_;rintro e w2 ⟨a,cap,rfl,hT,hb⟩;have HT:Hid (ToksAt w2 a ts):=hT;clear hT HC;go_wp2_with fail;go_ret2;exact ⟨a,cap,rfl,HT.out,hb⟩
def lexF:Nat->ByteArray->Nat->Option (List Tk)
 | 0,s,a=>if a<s.size then none else some []
 | f + 1,s,a=>
   if h:a<s.size then
    if blankB s[a] then lexF f s (a+Lx.pieceN s a)
    else match tokOf (s.extract a (a+Lx.pieceN s a)) with
     | none=>none
     | some t=>(lexF f s (a+Lx.pieceN s a)).map (t :: ·)
   else some []
theorem lexF_eq:∀ (f:Nat) (s:ByteArray) (a:Nat),s.size - a<=f->lexF f s a=lexAt s a
 | 0,s,a,h=>by rw [lexAt_end s a (by omega)];unfold lexF;rw [if_neg (by omega)]
 | f+1,s,a,h=>by
   have hp:=Lx.pieceN_pos s a;have ih:=lexF_eq f s (a+Lx.pieceN s a) (by omega);rw [lexAt,lexF,ih]
   cases tokOf (s.extract a (a+Lx.pieceN s a))<;>rfl
end Go.Proofs.YtndkhgakfodldaaGreatDoor

namespace Go.Proofs.YtndkhgakfodldaaGreatDoor
open Go.RowKit
def pieceL (l:List UInt8):Nat:=if Lx.runL l=0 then 1 else Lx.runL l
theorem pieceL_pos (l:List UInt8):0<pieceL l:=by unfold pieceL;split<;>omega
def lexL:List UInt8->Option (List Tk)
 | []=>some []
 | c :: l=>
   if blankB c then lexL ((c :: l).drop (pieceL (c :: l)))
   else match tokOf (strOf ((c :: l).take (pieceL (c :: l)))) with
    | none=>none
    | some t=>(lexL ((c :: l).drop (pieceL (c :: l)))).map (t :: ·)
termination_by l=>l.length
decreasing_by
 all_goals have:=pieceL_pos (c :: l);simp only [List.length_drop,List.length_cons];omega
theorem extract_str (s:ByteArray) (a n:Nat):s.extract a (a+n)=strOf ((s.data.toList.drop a).take n):=by
 rw [← piece_data,strOf_back]
theorem lexAt_list:∀ (n:Nat) (s:ByteArray) (a:Nat),s.size - a=n->lexAt s a=lexL (s.data.toList.drop a):=by
 intro n
 induction n using Nat.strongRecOn with
 | _ n ih=>
   intro s a hn
   by_cases h:a<s.size
   . have hd:=drop_cons s a h
     have hp:Lx.pieceN s a=pieceL (s.data.toList.drop a):=rfl;have hpos:=Lx.pieceN_pos s a;have ih':=ih (s.size - (a+Lx.pieceN s a)) (by omega) s (a+Lx.pieceN s a) rfl
     have hdd:s.data.toList.drop (a+Lx.pieceN s a)=(s.data.toList.drop a).drop (Lx.pieceN s a):=by rw [List.drop_drop]
     cases hb:blankB s[a] with
     | true=>
       rw [lexAt_blank s a h hb,ih',hdd,hp,hd,lexL,if_pos hb]
     | false=>
       have he:=extract_str s a (Lx.pieceN s a)
       cases ht:tokOf (s.extract a (a+Lx.pieceN s a)) with
       | none=>
         rw [lexAt_none s a h hb ht];rw [he,hp,hd] at ht;rw [hd,lexL,if_neg (by simp [hb]),ht]
       | some t=>
         rw [lexAt_some s a t h hb ht,ih',hdd];rw [he,hp,hd] at ht;rw [hp,hd,lexL,if_neg (by simp [hb]),ht]
   . rw [lexAt_end s a h,List.drop_eq_nil_of_le (by rw [Lx.len_toList];omega),lexL]
theorem lexAt_zero (s:ByteArray):lexAt s 0=lexL s.data.toList:=by
 have:=lexAt_list _ s 0 rfl;rwa [List.drop_zero] at this
theorem tokOf_right {s:ByteArray} {t:Tk} (h:tokOf s=some t):kindB t=true/\Tk.okB t=true:=by
 unfold tokOf at h
 split at h
 . rename_i hs
   cases h;exact ⟨rfl,by unfold Tk.okB;simp [hs]⟩
 . split at h
   . rename_i hn
     cases h;exact ⟨rfl,by unfold Tk.okB;simp [hn]⟩
   . split at h
     . rename_i hk
       cases h;refine ⟨rfl,?_⟩
       have hv:Lx.valL s.data.toList<=1099511627775:=by unfold Lx.numOk at hk;simp at hk;exact hk.2
       unfold Tk.okB;rw [Lib.toList_data];simp;omega
     . cases h
theorem lexL_right:∀ (n:Nat) (l:List UInt8) (ts:List Tk),l.length=n->lexL l=some ts->Right ts/\ts.length<=l.length:=by
 intro n
 induction n using Nat.strongRecOn with
 | _ n ih=>
   intro l ts hn h
   cases l with
   | nil=>rw [lexL] at h;cases h;exact ⟨⟨rfl,rfl⟩,Nat.le_refl _⟩
   | cons c r=>
     have hpos:=pieceL_pos (c :: r)
     have hlen:((c :: r).drop (pieceL (c :: r))).length<n:=by rw [List.length_drop];simp at hn ⊢;omega
     rw [lexL] at h
     split at h
     . obtain ⟨h1,h2⟩:=ih _ hlen _ ts rfl h
       exact ⟨h1,by omega⟩
     . cases ht:tokOf (strOf ((c :: r).take (pieceL (c :: r)))) with
       | none=>rw [ht] at h;cases h
       | some t=>
         rw [ht] at h
         cases hr:lexL ((c :: r).drop (pieceL (c :: r))) with
         | none=>rw [hr] at h;cases h
         | some us=>
           rw [hr] at h;cases h;obtain ⟨h1,h2⟩:=ih _ hlen _ us rfl hr;obtain ⟨hk,ho⟩:=tokOf_right ht;refine ⟨⟨?_,?_⟩,?_⟩
           . rw [List.all_cons,hk,h1.1];rfl
           . rw [List.all_cons,ho,h1.2];rfl
           . simp only [List.length_cons] at *;omega
end Go.Proofs.YtndkhgakfodldaaGreatDoor

namespace Go.Proofs.YtndkhgakfodldaaGreatDoor
open Go.RowKit
def kTk (t:ByteArray):Tk:=⟨if Lx.nameB t.data.toList then 1 else 3,0,t⟩
def wTk (t:ByteArray):Tk:=⟨1,0,t⟩
def nTk (n:Int):Tk:=⟨2,n,⟨#[]⟩⟩
theorem sign_name {l:List UInt8} (h:Lx.signL l=true):Lx.nameB l=false:=by
 match l,h with
 | [c],h=>
   have h':Lx.signs.contains c=true:=h
   have key:∀ c ∈ Lx.signs,Lx.nameB [c]=false:=by decide
   exact key c (List.contains_iff_mem.1 h')
theorem Right.of_app {a b:List Tk} (h:Right (a++b)):Right b:=by
 obtain ⟨h1,h2⟩:=h;rw [List.all_append,Bool.and_eq_true] at h1 h2;exact ⟨h1.2,h2.2⟩
theorem Right.head {t:Tk} {b:List Tk} (h:Right (t :: b)):kindB t=true/\Tk.okB t=true:=by
 obtain ⟨h1,h2⟩:=h;rw [List.all_cons,Bool.and_eq_true] at h1 h2;exact ⟨h1.1,h2.1⟩
theorem Right.of_eq {a b c:List Tk} (h:Right a) (e:a=b++c):Right c:=by rw [e] at h;exact h.of_app
theorem toList_inj {s t:ByteArray} (h:s.toList=t.toList):s=t:=by
 rw [Lib.toList_data,Lib.toList_data] at h;exact ByteArray.ext (Array.ext' h)
theorem sk_tok {l:List Tk} {t:ByteArray} (hr:Right l) (ht:0<t.size) (h:skB l t=true):l=kTk t :: l.tail:=by
 cases l with
 | nil=>exact absurd rfl (skB_ne ht h)
 | cons x r=>
   obtain ⟨hk,ho⟩:=hr.head;obtain ⟨k,n,s⟩:=x;have hs:s=t:=toList_inj (beq_iff_eq.1 h);subst hs;show Tk.mk k n s :: r=kTk s :: r
   have hne:s.toList.isEmpty=false:=by
    cases he:s.toList.isEmpty with
    | false=>rfl
    | true=>
      rw [Lib.toList_data] at he;have h1:=Lx.len_toList s;rw [List.isEmpty_iff.1 he] at h1;simp at h1;omega
   unfold kindB at hk;simp only [Bool.and_eq_true,decide_eq_true_eq] at hk;unfold Tk.okB at ho
   have h123:k=1\/k=2\/k=3:=by omega
   rcases h123 with rfl | rfl | rfl
   . simp at ho
     unfold kTk
     rw [ho.1,ho.2];rfl
   . simp [hne] at ho
   . simp at ho
     unfold kTk
     rw [ho.1,sign_name ho.2];rfl
theorem keptP_eq (s:ByteArray):keptP s=keptB s:=by
 unfold keptP keptB;rw [Lib.toList_data];show kepts.any _=kept.contains _;rw [Bool.eq_iff_iff,List.any_eq_true,List.contains_iff_mem]
 constructor
 . rintro ⟨x,hx,h⟩
   rw [beq_iff_eq.1 h];exact hx
 . intro h
   exact ⟨_,h,beq_self_eq_true _⟩
theorem name_tok {l l':List Tk} {a:ByteArray} (hr:Right l) (h:pName l=some (a,l')):l=wTk a :: l'/\nameOk a=true:=by
 unfold pName at h
 split at h
 . rename_i hk
   obtain ⟨rfl,rfl⟩:=Prod.mk.inj (Option.some.inj h);simp only [Bool.and_eq_true,beq_iff_eq,Bool.not_eq_true'] at hk
   cases l with
   | nil=>exact absurd hk.1 (by decide)
   | cons x r=>
     obtain ⟨_,ho⟩:=hr.head;obtain ⟨k,n,s⟩:=x;have e1:k=1:=hk.1;have e2:keptP s=false:=hk.2;subst e1;unfold Tk.okB at ho;simp at ho;have e3:n=0:=ho.1;subst e3;refine ⟨rfl,?_⟩;show nameOk s=true;unfold nameOk
     rw [← keptP_eq,e2,ho.2];rfl
 . cases h
theorem num_tok {l l':List Tk} {a:Int} (hr:Right l) (h:pNum l=some (a,l')):l=nTk a :: l'/\0<=a/\a<=1099511627775:=by
 unfold pNum at h
 split at h
 . rename_i hk
   obtain ⟨rfl,rfl⟩:=Prod.mk.inj (Option.some.inj h)
   cases l with
   | nil=>exact absurd hk (by decide)
   | cons x r=>
     obtain ⟨_,ho⟩:=hr.head;obtain ⟨k,n,s⟩:=x;have e1:k=2:=hk;subst e1;unfold Tk.okB at ho;simp at ho
     have e2:s=⟨#[]⟩:=by
      apply toList_inj
      rw [ho.1,Lib.toList_data]
     subst e2;exact ⟨rfl,ho.2⟩
 . cases h
def refT (m n:ByteArray):List Tk:=if m.size=0 then [wTk n] else [wTk m,kTk tDot,wTk n]
theorem name_pos {s:ByteArray} (h:nameOk s=true):0<s.size:=by
 rcases Nat.eq_zero_or_pos s.size with h0 | h0
 . exfalso
   have:s.data.toList=[]:=List.eq_nil_of_length_eq_zero (by rw [Lx.len_toList];exact h0);unfold nameOk at h;rw [this] at h;simp [Lx.nameB,Lx.headLet] at h
 . exact h0
theorem ref_tok {l l':List Tk} {m n:ByteArray} (hr:Right l) (h:pRef l=some ((m,n),l')):l=refT m n++l'/\nameOk n=true/\(m.size=0\/nameOk m=true):=by
 unfold pRef at h
 split at h
 . cases h
 rename_i a l1 h1
 obtain ⟨e1,n1⟩:=name_tok hr h1;have r1:Right l1:=hr.of_eq (b:=[wTk a]) e1
 split at h
 . rename_i hs
   have e2:=sk_tok r1 (by decide) hs
   split at h
   . cases h
   rename_i b l2 h2
   obtain ⟨e3,n3⟩:=name_tok (r1.of_eq (b:=[kTk tDot]) e2) h2;obtain ⟨h3,rfl⟩:=Prod.mk.inj (Option.some.inj h);obtain ⟨rfl,rfl⟩:=Prod.mk.inj h3;refine ⟨?_,n3,Or.inr n1⟩;unfold refT
   rw [if_neg (by have:=name_pos n1;omega),e1,e2,show l1.tail=wTk b :: l2 from e3];rfl
 . obtain ⟨h3,rfl⟩:=Prod.mk.inj (Option.some.inj h)
   obtain ⟨rfl,rfl⟩:=Prod.mk.inj h3;exact ⟨e1,n1,Or.inl rfl⟩
def opTk (op:Int):Tk:=kTk (opTexts.getD (op - 7).toNat ⟨#[]⟩)
def commas:List (List Tk)->List Tk
 | []=>[]
 | [x]=>x
 | x :: y :: r=>x++kTk tCom :: commas (y :: r)
def exTok (op n:Int) (m nm:ByteArray) (xs:List (List Tk)):List Tk:=
 if op=1 then [nTk n] else if op=2 then [kTk tIn] else if op=3 then refT m nm
 else if op=4 then refT m nm++kTk tLs :: (xs.getD 0 []++[kTk tRs])
 else if op=5 then refT m nm++kTk tLp :: (commas xs++[kTk tRp])
 else if op=6 then kTk tNot :: xs.getD 0 []
 else kTk tLp :: (xs.getD 0 []++opTk op :: (xs.getD 1 []++[kTk tRp]))
mutual
def tE:Ex->List Tk
 | .mk op n m nm args=>exTok op n m nm (tEs args)
def tEs:List Ex->List (List Tk)
 | []=>[]
 | x :: r=>tE x :: tEs r
end
theorem tEs_append:∀ (a b:List Ex),tEs (a++b)=tEs a++tEs b
 | [],b=>by simp [tEs]
 | x :: r,b=>by simp [tEs,tEs_append r b]
theorem tEs_len:∀ (a:List Ex),(tEs a).length=a.length
 | []=>by simp [tEs]
 | x :: r=>by simp [tEs,tEs_len r]
theorem commas_snoc:∀ (a:List (List Tk)) (x:List Tk),a≠[]->commas (a++[x])=commas a++kTk tCom :: x
 | [],_,h=>absurd rfl h
 | [y],x,_=>by simp [commas]
 | y :: z :: r,x,_=>by
   have:=commas_snoc (z :: r) x (by simp);show y++kTk tCom :: commas ((z :: r)++[x])=(y++kTk tCom :: commas (z :: r))++kTk tCom :: x
   rw [this];simp
theorem wf_small {n:Int} (h0 : -9223372036854775808<=n) (h1:n<=9223372036854775807):(Lit.int .i64 n).wf=true:=by
 have e1:IntKind.i64.min = -9223372036854775808:=by decide
 have e2:IntKind.i64.max=9223372036854775807:=by decide
 simp [Lit.wf,e1,e2];omega
theorem exsD_len:∀ (l:List Ex),(exsD l).length=5*l.length
 | []=>by simp [exsD]
 | x :: r=>by
   have:=x.ds_len
   simp [exsD,exsD_len r,this];omega
theorem stsD_len:∀ (l:List St),(stsD l).length=6*l.length
 | []=>by simp [stsD]
 | x :: r=>by
   have:=x.ds_len
   simp [stsD,stsD_len r,this];omega
theorem ex_fine {op n:Int} {m nm:ByteArray} {args:List Ex} (h1:(Lit.int .i64 op).wf=true) (h2:(Lit.int .i64 n).wf=true) (h3:args.length<=10000) (h4:D.fines (exsD args)):D.fines (Ex.mk op n m nm args).ds:=by
 unfold Ex.ds;simp only [D.fines,D.fine];refine ⟨h1,h2,trivial,trivial,⟨?_,?_,h4⟩,trivial⟩
 . rw [exsD_len];omega
 . rw [exsD_len];omega
theorem fines_nil:D.fines []:=by unfold D.fines;trivial
theorem ex_fine1 {x:Ex} (h:D.fines x.ds):D.fines (exsD [x]):=by rw [exsD_one];exact h
theorem ex_fine2 {x y:Ex} (h:D.fines x.ds) (k:D.fines y.ds):D.fines (exsD [x,y]):=by
 show D.fines (x.ds++(y.ds++[]));exact D.fines_append h (D.fines_append k fines_nil)
theorem opOf_tok {l:List Tk} {k:Nat} (hr:Right l) (h:opOf l=some k):l=opTk (7+k) :: l.tail/\k<9:=by
 unfold opOf at h;obtain ⟨hk,h2,_⟩:=List.findIdx?_eq_some_iff_getElem.1 h
 have hp:0<(opTexts[k]).size:=by
  have:∀ x ∈ opTexts,0<x.size:=by decide
  exact this _ (List.getElem_mem hk)
 refine ⟨?_,hk⟩;have e:=sk_tok hr hp h2;unfold opTk;rw [show ((7:Int)+(k:Int) - 7).toNat=k from by omega,List.getD_eq_getElem?_getD,List.getElem?_eq_getElem hk];exact e
def Good (l:List Tk):Prop:=Right l/\l.length<=4096
theorem Good.of_eq {a b c:List Tk} (h:Good a) (e:a=b++c):Good c:=⟨h.1.of_eq e,by have:=h.2;rw [e,List.length_append] at this;omega⟩
theorem Good.tl {a c:List Tk} {t:Tk} (h:Good a) (e:a=t :: c):Good c:=h.of_eq (b:=[t]) e
mutual
theorem pExpr_sound:∀ (f:Nat) (l l':List Tk) (x:Ex),pExpr f l=some (x,l')->Good l->l=tE x++l'/\D.fines x.ds
 | 0,_,_,_,h,_=>by simp [pExpr] at h
 | f + 1,l,l',x,h,hg=>by
   unfold pExpr at h
   split at h
   . rename_i hk
     obtain ⟨rfl,rfl⟩:=Prod.mk.inj (Option.some.inj h)
     have hn:pNum l=some ((hd l).n,l.tail):=by unfold pNum;rw [if_pos hk]
     obtain ⟨e,h0,h1⟩:=num_tok hg.1 hn;exact ⟨by simpa [tE,exTok] using e,ex_fine (wf_small (by decide) (by decide)) (wf_small (by omega) (by omega)) (by simp) (by unfold exsD;exact fines_nil)⟩
   split at h
   . rename_i hs
     obtain ⟨rfl,rfl⟩:=Prod.mk.inj (Option.some.inj h);exact ⟨by simpa [tE,exTok] using sk_tok hg.1 (by decide) hs,ex_fine (wf_small (by decide) (by decide)) (wf_small (by decide) (by decide)) (by simp) (by unfold exsD;exact fines_nil)⟩
   split at h
   . rename_i hs
     have e:=sk_tok hg.1 (by decide) hs
     split at h
     . cases h
     rename_i y l1 h1
     obtain ⟨rfl,rfl⟩:=Prod.mk.inj (Option.some.inj h);obtain ⟨e1,f1⟩:=pExpr_sound f _ _ _ h1 (hg.tl e);refine ⟨?_,ex_fine (wf_small (by decide) (by decide)) (wf_small (by decide) (by decide)) (by simp) (ex_fine1 f1)⟩
     rw [e,show l.tail=tE y++l1 from e1];simp [tE,tEs,exTok]
   split at h
   . rename_i hs
     have e:=sk_tok hg.1 (by decide) hs;obtain ⟨e1,f1⟩:=pPair_sound f _ _ _ h (hg.tl e);exact ⟨e.trans e1,f1⟩
   split at h
   . cases h
   rename_i m nm l1 h1
   obtain ⟨e1,n1,n2⟩:=ref_tok hg.1 h1;have g1:=hg.of_eq e1
   split at h
   . rename_i hs
     have e2:=sk_tok g1.1 (by decide) hs
     split at h
     . cases h
     rename_i y l2 h2
     obtain ⟨e3,f3⟩:=pExpr_sound f _ _ _ h2 (g1.tl e2)
     split at h
     . rename_i hs2
       have e4:=sk_tok ((g1.tl e2).of_eq e3).1 (by decide) hs2;obtain ⟨rfl,rfl⟩:=Prod.mk.inj (Option.some.inj h);refine ⟨?_,ex_fine (wf_small (by decide) (by decide)) (wf_small (by decide) (by decide)) (by simp) (ex_fine1 f3)⟩
       rw [e1,e2,show l1.tail=tE y++l2 from e3,e4];simp [tE,tEs,exTok]
     . cases h
   split at h
   . rename_i hs
     have e2:=sk_tok g1.1 (by decide) hs
     split at h
     . cases h
     rename_i ys l2 h2
     obtain ⟨e3,f3,c3⟩:=pArgs_sound f _ _ _ h2 (g1.tl e2);obtain ⟨rfl,rfl⟩:=Prod.mk.inj (Option.some.inj h);have hl3:l1.tail.length<=4096:=(g1.tl e2).2;refine ⟨?_,ex_fine (wf_small (by decide) (by decide)) (wf_small (by decide) (by decide)) (by omega) f3⟩
     rw [e1,e2,show l1.tail=commas (tEs ys)++kTk tRp :: l2 from e3];simp [tE,exTok]
   . obtain ⟨rfl,rfl⟩:=Prod.mk.inj (Option.some.inj h)
     refine ⟨?_,ex_fine (wf_small (by decide) (by decide)) (wf_small (by decide) (by decide)) (by simp) (by unfold exsD;exact fines_nil)⟩
     rw [e1];simp [tE,exTok]
theorem pPair_sound:∀ (f:Nat) (l l':List Tk) (x:Ex),pPair f l=some (x,l')->Good l->kTk tLp :: l=tE x++l'/\D.fines x.ds
 | 0,_,_,_,h,_=>by simp [pPair] at h
 | f + 1,l,l',x,h,hg=>by
   unfold pPair at h
   split at h
   . cases h
   rename_i a l1 h1
   obtain ⟨e1,f1⟩:=pExpr_sound f _ _ _ h1 hg;have g1:=hg.of_eq e1
   split at h
   . cases h
   rename_i k hk
   obtain ⟨e2,k9⟩:=opOf_tok g1.1 hk
   split at h
   . cases h
   rename_i b l2 h2
   obtain ⟨e3,f3⟩:=pExpr_sound f _ _ _ h2 (g1.tl e2)
   split at h
   . rename_i hs
     have e4:=sk_tok ((g1.tl e2).of_eq e3).1 (by decide) hs;obtain ⟨rfl,rfl⟩:=Prod.mk.inj (Option.some.inj h);refine ⟨?_,ex_fine (wf_small (by omega) (by omega)) (wf_small (by decide) (by decide)) (by simp) (ex_fine2 f1 f3)⟩
     have hop:∀ xs,exTok (7+(k:Int)) 0 ⟨#[]⟩ ⟨#[]⟩ xs=kTk tLp :: (xs.getD 0 []++opTk (7+k) :: (xs.getD 1 []++[kTk tRp])):=by
      intro xs;unfold exTok;rw [if_neg (by omega),if_neg (by omega),if_neg (by omega),if_neg (by omega),if_neg (by omega),if_neg (by omega)]
     rw [e1,e2,show l1.tail=tE b++l2 from e3,e4];simp only [tE,hop,tEs];simp
   . cases h
theorem pArgs_sound:∀ (f:Nat) (l l':List Tk) (xs:List Ex),pArgs f l=some (xs,l')->Good l->l=commas (tEs xs)++kTk tRp :: l'/\D.fines (exsD xs)/\xs.length<=l.length
 | 0,_,_,_,h,_=>by simp [pArgs] at h
 | f + 1,l,l',xs,h,hg=>by
   unfold pArgs at h
   split at h
   . rename_i hs
     obtain ⟨rfl,rfl⟩:=Prod.mk.inj (Option.some.inj h);exact ⟨by simpa [tEs,commas] using sk_tok hg.1 (by decide) hs,by unfold exsD;exact fines_nil,by simp⟩
   split at h
   . cases h
   rename_i x l1 h1
   obtain ⟨e1,f1⟩:=pExpr_sound f _ _ _ h1 hg;have hlt:=pExpr_lt f _ _ _ h1;obtain ⟨e2,f2,c2⟩:=pMore_sound f [x] l1 l' xs h (hg.of_eq e1) (by simp) (by have:=hg.2;simp;omega) (ex_fine1 f1);refine ⟨?_,f2,by simp at c2;omega⟩
   rw [e1,← e2];simp [tEs,commas]
theorem pMore_sound:∀ (f:Nat) (acc:List Ex) (l l':List Tk) (xs:List Ex),pMore f acc l=some (xs,l')->Good l->acc≠[]->acc.length+l.length<=10000->D.fines (exsD acc)->commas (tEs acc)++l=commas (tEs xs)++kTk tRp :: l'/\D.fines (exsD xs)/\xs.length<=acc.length+l.length
 | 0,_,_,_,_,h,_,_,_,_=>by simp [pMore] at h
 | f + 1,acc,l,l',xs,h,hg,hne,hc,hf=>by
   unfold pMore at h
   split at h
   . rename_i hs
     have e:=sk_tok hg.1 (by decide) hs;have hl:=skB_lt (by decide) hs
     split at h
     . cases h
     rename_i x l1 h1
     obtain ⟨e1,f1⟩:=pExpr_sound f _ _ _ h1 (hg.tl e);have hlt:=pExpr_lt f _ _ _ h1;obtain ⟨e2,f2,c2⟩:=pMore_sound f (acc++[x]) l1 l' xs h ((hg.tl e).of_eq e1) (by simp) (by simp;omega) (by rw [exsD_append];exact D.fines_append hf (ex_fine1 f1));refine ⟨?_,f2,by simp at c2;omega⟩;rw [← e2,tEs_append,show tEs [x]=[tE x] from by simp [tEs],commas_snoc _ _ (by intro h0;apply hne;have:=tEs_len acc;rw [h0] at this;exact List.eq_nil_of_length_eq_zero this.symm),e,show l.tail=tE x++l1 from e1];simp
   split at h
   . rename_i hs
     obtain ⟨rfl,rfl⟩:=Prod.mk.inj (Option.some.inj h);exact ⟨by rw [← sk_tok hg.1 (by decide) hs],hf,by omega⟩
   . cases h
end
end Go.Proofs.YtndkhgakfodldaaGreatDoor

namespace Go.Proofs.YtndkhgakfodldaaGreatDoor
open Go.RowKit
def lnTok (op:Int) (m nm:ByteArray) (xs:List (List Tk)):List Tk:=
 if op=1 then refT m nm++kTk tEq :: xs.getD 0 []
 else if op=2 then refT m nm++kTk tLs :: (xs.getD 0 []++kTk tRs :: kTk tEq :: xs.getD 1 [])
 else if op=3 then refT m nm++kTk tLp :: (commas xs++[kTk tRp])
 else if op=6 then kTk tReturn :: xs.getD 0 [] else kTk tOut :: xs.getD 0 []
def brT (x:List Tk):List Tk:=kTk tLb :: (x++[kTk tRb])
def stTok (op:Int) (m nm:ByteArray) (xs:List (List Tk)) (b o:List Tk) (k:Nat):List Tk:=
 if op=4 then kTk tIf :: (xs.getD 0 []++(brT b++(if k=0 then [] else kTk tElse :: brT o)))
 else if op=5 then kTk tWhile :: (xs.getD 0 []++brT b)
 else lnTok op m nm xs++[kTk tSem]
mutual
def tS:St->List Tk
 | .mk op m nm args body other=>stTok op m nm (tEs args) (tSs body) (tSs other) other.length
def tSs:List St->List Tk
 | []=>[]
 | s :: r=>tS s++tSs r
end
theorem tSs_append:∀ (a b:List St),tSs (a++b)=tSs a++tSs b
 | [],b=>by simp [tSs]
 | x :: r,b=>by simp [tSs,tSs_append r b]
theorem tSs_one (s:St):tSs [s]=tS s:=by simp [tSs]
theorem st_fine {op:Int} {m nm:ByteArray} {args:List Ex} {body other:List St} (h1:(Lit.int .i64 op).wf=true) (h3:args.length<=10000) (h4:D.fines (exsD args)) (h5:body.length<=10000) (h6:D.fines (stsD body)) (h7:other.length<=10000) (h8:D.fines (stsD other)):D.fines (St.mk op m nm args body other).ds:=by
 unfold St.ds;simp only [D.fines,D.fine];refine ⟨h1,trivial,trivial,⟨?_,?_,h4⟩,⟨?_,?_,h6⟩,⟨?_,?_,h8⟩,trivial⟩
 . rw [exsD_len];omega
 . rw [exsD_len];omega
 . rw [stsD_len];omega
 . rw [stsD_len];omega
 . rw [stsD_len];omega
 . rw [stsD_len];omega
theorem sts_nil:D.fines (stsD []):=by unfold stsD;exact fines_nil
theorem pX_sound {l l':List Tk} {x:Ex} (h:pX l=some (x,l')) (hg:Good l):l=tE x++l'/\D.fines x.ds:=pExpr_sound _ _ _ _ h hg
theorem pAs_sound {l l':List Tk} {xs:List Ex} (h:pAs l=some (xs,l')) (hg:Good l):l=commas (tEs xs)++kTk tRp :: l'/\D.fines (exsD xs)/\xs.length<=l.length:=pArgs_sound _ _ _ _ h hg
def lnOf:St->List Tk
 | .mk op m nm args _ _=>lnTok op m nm (tEs args)
theorem pNamed_sound {l l':List Tk} {s:St} (h:pNamed l=some (s,l')) (hg:Good l):l++[]=lnOf s++l'/\D.fines s.ds/\s.op≠4/\s.op≠5:=by
 unfold pNamed at h
 split at h
 . cases h
 rename_i m nm l1 h1
 obtain ⟨e1,n1,n2⟩:=ref_tok hg.1 h1;have g1:=hg.of_eq e1
 split at h
 . rename_i hs
   have e2:=sk_tok g1.1 (by decide) hs
   split at h
   . cases h
   rename_i x l2 h2
   obtain ⟨e3,f3⟩:=pX_sound h2 (g1.tl e2);obtain ⟨rfl,rfl⟩:=Prod.mk.inj (Option.some.inj h);refine ⟨?_,st_fine (wf_small (by decide) (by decide)) (by simp) (ex_fine1 f3) (by simp) sts_nil (by simp) sts_nil,by simp [St.op],by simp [St.op]⟩
   rw [List.append_nil,e1,e2,show l1.tail=tE x++l2 from e3];simp [lnOf,tEs,lnTok]
 split at h
 . rename_i hs
   have e2:=sk_tok g1.1 (by decide) hs
   split at h
   . cases h
   rename_i x l2 h2
   obtain ⟨e3,f3⟩:=pX_sound h2 (g1.tl e2);have g3:=(g1.tl e2).of_eq e3
   split at h
   . rename_i hs2
     have e4:=sk_tok g3.1 (by decide) hs2
     split at h
     . rename_i hs3
       have e5:=sk_tok (g3.tl e4).1 (by decide) hs3
       split at h
       . cases h
       rename_i y l3 h3
       obtain ⟨e6,f6⟩:=pX_sound h3 ((g3.tl e4).tl e5);obtain ⟨rfl,rfl⟩:=Prod.mk.inj (Option.some.inj h);refine ⟨?_,st_fine (wf_small (by decide) (by decide)) (by simp) (ex_fine2 f3 f6) (by simp) sts_nil (by simp) sts_nil,by simp [St.op],by simp [St.op]⟩
       rw [List.append_nil,e1,e2,show l1.tail=tE x++l2 from e3,e4,show l2.tail=kTk tEq :: l2.tail.tail from e5,show l2.tail.tail=tE y++l3 from e6];simp [lnOf,tEs,lnTok]
     . cases h
   . cases h
 split at h
 . rename_i hs
   have e2:=sk_tok g1.1 (by decide) hs
   split at h
   . cases h
   rename_i xs l2 h2
   obtain ⟨e3,f3,c3⟩:=pAs_sound h2 (g1.tl e2);have hl3:l1.tail.length<=4096:=(g1.tl e2).2;obtain ⟨rfl,rfl⟩:=Prod.mk.inj (Option.some.inj h);refine ⟨?_,st_fine (wf_small (by decide) (by decide)) (by omega) f3 (by simp) sts_nil (by simp) sts_nil,by simp [St.op],by simp [St.op]⟩
   rw [List.append_nil,e1,e2,show l1.tail=commas (tEs xs)++kTk tRp :: l2 from e3];simp [lnOf,lnTok]
 . cases h
theorem ended_of {l l1 l2:List Tk} {s s':St} {r:Option (St × List Tk)} (h:pEnded r=some (s,l2)) (hr:r=some (s',l1)) (hg:Good l) (e:l=lnOf s'++l1) (h4:s'.op≠4) (h5:s'.op≠5):s=s'/\l=tS s'++l2:=by
 subst hr;unfold pEnded at h;simp only at h
 split at h
 . rename_i hs
   have e1:=sk_tok (hg.of_eq e).1 (by decide) hs;obtain ⟨rfl,rfl⟩:=Prod.mk.inj (Option.some.inj h);refine ⟨rfl,?_⟩;obtain ⟨op,m,nm,args,body,other⟩:=s';have h4':¬ op=4:=h4;have h5':¬ op=5:=h5;rw [e,e1];simp [lnOf,tS,stTok,h4',h5']
 . cases h
theorem pEnded_some {r:Option (St × List Tk)} {s:St} {l:List Tk} (h:pEnded r=some (s,l)):∃ s' l1,r=some (s',l1):=by
 cases r with
 | none=>cases h
 | some p=>exact ⟨p.1,p.2,rfl⟩
mutual
theorem pStmt_sound:∀ (f:Nat) (l l':List Tk) (s:St),pStmt f l=some (s,l')->Good l->l=tS s++l'/\D.fines s.ds
 | 0,_,_,_,h,_=>by simp [pStmt] at h
 | f + 1,l,l',s,h,hg=>by
   unfold pStmt at h
   split at h
   . rename_i hs
     have e:=sk_tok hg.1 (by decide) hs
     split at h
     . cases h
     rename_i x l1 h1
     obtain ⟨e1,f1⟩:=pX_sound h1 (hg.tl e);have g1:=(hg.tl e).of_eq e1
     split at h
     . cases h
     rename_i b l2 h2
     obtain ⟨e2,f2,c2⟩:=pBlock_sound f _ _ _ h2 g1;have g2:=g1.of_eq e2;have k1:=g1.2
     split at h
     . rename_i hs2
       have e3:=sk_tok g2.1 (by decide) hs2
       split at h
       . cases h
       rename_i o l3 h3
       obtain ⟨e4,f4,c4⟩:=pBlock_sound f _ _ _ h3 (g2.tl e3);have k2:l2.tail.length<=4096:=(g2.tl e3).2
       split at h
       . cases h
       rename_i ho
       obtain ⟨rfl,rfl⟩:=Prod.mk.inj (Option.some.inj h);refine ⟨?_,st_fine (wf_small (by decide) (by decide)) (by simp) (ex_fine1 f1) (by omega) f2 (by omega) f4⟩
       have ho':¬ o=[]:=fun h0=>ho (by rw [h0];rfl)
       rw [e,show l.tail=tE x++l1 from e1,e2,e3,show l2.tail=brT (tSs o)++l3 from e4];simp [tS,tEs,stTok,ho']
     . obtain ⟨rfl,rfl⟩:=Prod.mk.inj (Option.some.inj h)
       refine ⟨?_,st_fine (wf_small (by decide) (by decide)) (by simp) (ex_fine1 f1) (by omega) f2 (by simp) sts_nil⟩
       rw [e,show l.tail=tE x++l1 from e1,e2];simp [tS,tEs,stTok]
   split at h
   . rename_i hs
     have e:=sk_tok hg.1 (by decide) hs
     split at h
     . cases h
     rename_i x l1 h1
     obtain ⟨e1,f1⟩:=pX_sound h1 (hg.tl e);have g1:=(hg.tl e).of_eq e1
     split at h
     . cases h
     rename_i b l2 h2
     obtain ⟨e2,f2,c2⟩:=pBlock_sound f _ _ _ h2 g1;have k1:=g1.2;obtain ⟨rfl,rfl⟩:=Prod.mk.inj (Option.some.inj h);refine ⟨?_,st_fine (wf_small (by decide) (by decide)) (by simp) (ex_fine1 f1) (by omega) f2 (by simp) sts_nil⟩
     rw [e,show l.tail=tE x++l1 from e1,e2];simp [tS,tEs,stTok]
   split at h
   . rename_i hs
     have e:=sk_tok hg.1 (by decide) hs
     cases h1:pX l.tail with
     | none=>rw [h1] at h;cases h
     | some p=>
       obtain ⟨x,l1⟩:=p;rw [h1] at h;obtain ⟨e1,f1⟩:=pX_sound h1 (hg.tl e);obtain ⟨rfl,e2⟩:=ended_of h rfl hg (by rw [e,e1];simp [lnOf,lnTok,tEs]) (by simp [St.op]) (by simp [St.op]);exact ⟨e2,st_fine (wf_small (by decide) (by decide)) (by simp) (ex_fine1 f1) (by simp) sts_nil (by simp) sts_nil⟩
   split at h
   . rename_i hs
     have e:=sk_tok hg.1 (by decide) hs
     cases h1:pX l.tail with
     | none=>rw [h1] at h;cases h
     | some p=>
       obtain ⟨x,l1⟩:=p;rw [h1] at h;obtain ⟨e1,f1⟩:=pX_sound h1 (hg.tl e);obtain ⟨rfl,e2⟩:=ended_of h rfl hg (by rw [e,e1];simp [lnOf,lnTok,tEs]) (by simp [St.op]) (by simp [St.op]);exact ⟨e2,st_fine (wf_small (by decide) (by decide)) (by simp) (ex_fine1 f1) (by simp) sts_nil (by simp) sts_nil⟩
   . obtain ⟨s',l1,hr⟩:=pEnded_some h
     obtain ⟨e1,f1,h4,h5⟩:=pNamed_sound hr hg;rw [List.append_nil] at e1;obtain ⟨rfl,e2⟩:=ended_of h hr hg e1 h4 h5;exact ⟨e2,f1⟩
theorem pBlock_sound:∀ (f:Nat) (l l':List Tk) (b:List St),pBlock f l=some (b,l')->Good l->l=brT (tSs b)++l'/\D.fines (stsD b)/\b.length<=l.length
 | 0,_,_,_,h,_=>by simp [pBlock] at h
 | f + 1,l,l',b,h,hg=>by
   unfold pBlock at h
   split at h
   . rename_i hs
     have e:=sk_tok hg.1 (by decide) hs;have hl:=skB_lt (by decide) hs;have k:=(hg.tl e).2;obtain ⟨e1,f1,c1⟩:=pStmts_sound f [] l.tail l' b h (hg.tl e) (by simp at k ⊢;omega) sts_nil;refine ⟨?_,f1,by simp at c1;omega⟩
     rw [e,show l.tail=tSs b++kTk tRb :: l' from by simpa [tSs] using e1];simp [brT]
   . cases h
theorem pStmts_sound:∀ (f:Nat) (acc:List St) (l l':List Tk) (b:List St),pStmts f acc l=some (b,l')->Good l->acc.length+l.length<=10000->D.fines (stsD acc)->tSs acc++l=tSs b++kTk tRb :: l'/\D.fines (stsD b)/\b.length<=acc.length+l.length
 | 0,_,_,_,_,h,_,_,_=>by simp [pStmts] at h
 | f + 1,acc,l,l',b,h,hg,hc,hf=>by
   unfold pStmts at h
   split at h
   . rename_i hs
     obtain ⟨rfl,rfl⟩:=Prod.mk.inj (Option.some.inj h);exact ⟨by rw [← sk_tok hg.1 (by decide) hs],hf,by omega⟩
   split at h
   . cases h
   rename_i s l1 h1
   obtain ⟨e1,f1⟩:=pStmt_sound f _ _ _ h1 hg;have hlt:=pStmt_lt f _ _ _ h1;obtain ⟨e2,f2,c2⟩:=pStmts_sound f (acc++[s]) l1 l' b h (hg.of_eq e1) (by simp;omega) (by rw [stsD_append,stsD_one];exact D.fines_append hf f1);refine ⟨?_,f2,by simp at c2;omega⟩
   rw [← e2,tSs_append,tSs_one,e1];simp
end
def pubT (b:Bool):List Tk:=if b then [kTk tPub] else []
theorem pub_tok {l:List Tk} (hr:Right l):l=pubT (skB l tPub)++pubL l:=by
 unfold pubT pubL
 cases h:skB l tPub with
 | true=>exact sk_tok hr (by decide) h
 | false=>rfl
def tD (d:De):List Tk:=pubT d.pub++(if d.kind=1 then [kTk tConst,wTk d.name,kTk tEq,nTk d.n,kTk tSem] else if d.kind=2 then [kTk tVar,wTk d.name,kTk tSem] else [kTk tArray,wTk d.name,kTk tLs,nTk d.n,kTk tRs,kTk tSem])
theorem de_fine {k n:Int} {nm:ByteArray} {p:Bool} (h1:(Lit.int .i64 k).wf=true) (h2:(Lit.int .i64 n).wf=true):D.fines (De.mk k nm p n).ds:=by
 simp only [De.ds,D.fines,D.fine];exact ⟨h1,trivial,trivial,h2,trivial⟩
theorem pDecl_sound {l l':List Tk} {d:De} (h:pDecl l=some (d,l')) (hg:Good l):l=tD d++l'/\D.fines d.ds:=by
 have ep:=pub_tok hg.1;have gp:=hg.of_eq ep;unfold pDecl at h
 split at h
 . rename_i hs
   have e:=sk_tok gp.1 (by decide) hs
   split at h
   . cases h
   rename_i n l1 h1
   obtain ⟨e1,n1⟩:=name_tok (gp.tl e).1 h1;have g1:=(gp.tl e).tl e1
   split at h
   . rename_i hs2
     have e2:=sk_tok g1.1 (by decide) hs2
     split at h
     . cases h
     rename_i k l2 h2
     obtain ⟨e3,k0,k1⟩:=num_tok (g1.tl e2).1 h2;have g3:=(g1.tl e2).tl e3
     split at h
     . rename_i hs3
       have e4:=sk_tok g3.1 (by decide) hs3;obtain ⟨rfl,rfl⟩:=Prod.mk.inj (Option.some.inj h);refine ⟨?_,de_fine (wf_small (by decide) (by decide)) (wf_small (by omega) (by omega))⟩;refine ep.trans ?_
       rw [e,show (pubL l).tail=wTk n :: l1 from e1,e2,show l1.tail=nTk k :: l2 from e3,e4];simp [tD]
     . cases h
   . cases h
 split at h
 . rename_i hs
   have e:=sk_tok gp.1 (by decide) hs
   split at h
   . cases h
   rename_i n l1 h1
   obtain ⟨e1,n1⟩:=name_tok (gp.tl e).1 h1;have g1:=(gp.tl e).tl e1
   split at h
   . rename_i hs3
     have e4:=sk_tok g1.1 (by decide) hs3;obtain ⟨rfl,rfl⟩:=Prod.mk.inj (Option.some.inj h);refine ⟨?_,de_fine (wf_small (by decide) (by decide)) (wf_small (by decide) (by decide))⟩;refine ep.trans ?_
     rw [e,show (pubL l).tail=wTk n :: l1 from e1,e4];simp [tD]
   . cases h
 split at h
 . rename_i hs
   have e:=sk_tok gp.1 (by decide) hs
   split at h
   . cases h
   rename_i n l1 h1
   obtain ⟨e1,n1⟩:=name_tok (gp.tl e).1 h1;have g1:=(gp.tl e).tl e1
   split at h
   . rename_i hs2
     have e2:=sk_tok g1.1 (by decide) hs2
     split at h
     . cases h
     rename_i k l2 h2
     obtain ⟨e3,k0,k1⟩:=num_tok (g1.tl e2).1 h2;have g3:=(g1.tl e2).tl e3
     split at h
     . rename_i hs3
       have e4:=sk_tok g3.1 (by decide) hs3
       split at h
       . rename_i hs4
         have e5:=sk_tok (g3.tl e4).1 (by decide) hs4;obtain ⟨rfl,rfl⟩:=Prod.mk.inj (Option.some.inj h);refine ⟨?_,de_fine (wf_small (by decide) (by decide)) (wf_small (by omega) (by omega))⟩;refine ep.trans ?_
         rw [e,show (pubL l).tail=wTk n :: l1 from e1,e2,show l1.tail=nTk k :: l2 from e3,e4,show l2.tail=kTk tSem :: l2.tail.tail from e5];simp [tD]
       . cases h
     . cases h
   . cases h
 . cases h
def namesC (ps:List ByteArray):List Tk:=commas (ps.map (fun n=>[wTk n]))
theorem pParams_sound:∀ (f:Nat) (acc:List ByteArray) (l l':List Tk) (ps:List ByteArray),pParams f acc l=some (ps,l')->Good l->acc≠[]->namesC acc++l=namesC ps++kTk tRp :: l'/\ps.length<=acc.length+l.length
 | 0,_,_,_,_,h,_,_=>by simp [pParams] at h
 | f + 1,acc,l,l',ps,h,hg,hne=>by
   unfold pParams at h
   split at h
   . rename_i hs
     have e:=sk_tok hg.1 (by decide) hs;have hl:=skB_lt (by decide) hs
     split at h
     . cases h
     rename_i n l1 h1
     obtain ⟨e1,_⟩:=name_tok (hg.tl e).1 h1;have hlt:=pName_lt h1;obtain ⟨e2,c2⟩:=pParams_sound f (acc++[n]) l1 l' ps h ((hg.tl e).tl e1) (by simp);refine ⟨?_,by simp at c2;omega⟩;rw [← e2];unfold namesC;rw [List.map_append,show [n].map (fun n=>[wTk n])=[[wTk n]] from rfl,commas_snoc _ _ (by simpa using hne),e,show l.tail=wTk n :: l1 from e1];simp
   split at h
   . rename_i hs
     obtain ⟨rfl,rfl⟩:=Prod.mk.inj (Option.some.inj h);exact ⟨by rw [← sk_tok hg.1 (by decide) hs],by omega⟩
   . cases h
theorem pPars_sound {l l':List Tk} {ps:List ByteArray} (h:pPars l=some (ps,l')) (hg:Good l):l=namesC ps++kTk tRp :: l'/\ps.length<=l.length:=by
 unfold pPars at h
 split at h
 . rename_i hs
   obtain ⟨rfl,rfl⟩:=Prod.mk.inj (Option.some.inj h);exact ⟨sk_tok hg.1 (by decide) hs,by simp⟩
 split at h
 . cases h
 rename_i n l1 h1
 obtain ⟨e1,_⟩:=name_tok hg.1 h1;have hlt:=pName_lt h1;obtain ⟨e2,c2⟩:=pParams_sound _ [n] l1 l' ps h (hg.tl e1) (by simp);exact ⟨by rw [e1,← e2];rfl,by simp at c2;omega⟩
def lstT (t:ByteArray) (l:List ByteArray):List Tk:=l.flatMap (fun n=>[kTk t,wTk n,kTk tSem])
theorem pList_sound (t:ByteArray) (ht:0<t.size):∀ (f:Nat) (acc:List ByteArray) (l l':List Tk) (ls:List ByteArray),pList t f acc l=some (ls,l')->Good l->lstT t acc++l=lstT t ls++l'/\ls.length<=acc.length+l.length
 | 0,_,_,_,_,h,_=>by simp [pList] at h
 | f + 1,acc,l,l',ls,h,hg=>by
   unfold pList at h
   split at h
   . rename_i hs
     have e:=sk_tok hg.1 ht hs;have hl:=skB_lt ht hs
     split at h
     . cases h
     rename_i n l1 h1
     obtain ⟨e1,_⟩:=name_tok (hg.tl e).1 h1;have hlt:=pName_lt h1;have g1:=(hg.tl e).tl e1
     split at h
     . rename_i hs2
       have e2:=sk_tok g1.1 (by decide) hs2;have hl2:=skB_lt (by decide) hs2;obtain ⟨e3,c3⟩:=pList_sound t ht f (acc++[n]) l1.tail l' ls h (g1.tl e2);refine ⟨?_,by simp at c3 hl2 ⊢;omega⟩;rw [← e3,e,show l.tail=wTk n :: l1 from e1]
       conv=>lhs;rw [e2]
       simp [lstT]
     . cases h
   . obtain ⟨rfl,rfl⟩:=Prod.mk.inj (Option.some.inj h)
     exact ⟨rfl,by omega⟩
def tP (p:Pr):List Tk:=pubT p.pub++kTk tProc :: wTk p.name :: kTk tLp :: (namesC p.params++kTk tRp :: (lstT tLocal p.locals++brT (tSs p.body)))
theorem strs_fine:∀ (l:List ByteArray),D.fines (strsD l)
 | []=>fines_nil
 | x :: r=>by
   show D.fines (.str x :: strsD r);simp only [D.fines,D.fine];exact ⟨trivial,strs_fine r⟩
theorem pr_fine {nm:ByteArray} {pb:Bool} {ps ls:List ByteArray} {b:List St} (h1:ps.length<=10000) (h2:ls.length<=10000) (h3:b.length<=10000) (h4:D.fines (stsD b)):D.fines (Pr.mk nm pb ps ls b).ds:=by
 simp only [Pr.ds,D.fines,D.fine];refine ⟨trivial,trivial,⟨?_,?_,strs_fine _⟩,⟨?_,?_,strs_fine _⟩,⟨?_,?_,h4⟩,trivial⟩
 . simp [strsD]
 . simp [strsD];omega
 . simp [strsD]
 . simp [strsD];omega
 . rw [stsD_len];omega
 . rw [stsD_len];omega
theorem pProc_sound {l l':List Tk} {p:Pr} (h:pProc l=some (p,l')) (hg:Good l):l=tP p++l'/\D.fines p.ds:=by
 have ep:=pub_tok hg.1;have gp:=hg.of_eq ep;unfold pProc at h
 split at h
 . rename_i hs
   have e:=sk_tok gp.1 (by decide) hs
   split at h
   . cases h
   rename_i n l1 h1
   obtain ⟨e1,n1⟩:=name_tok (gp.tl e).1 h1;have g1:=(gp.tl e).tl e1
   split at h
   . rename_i hs2
     have e2:=sk_tok g1.1 (by decide) hs2;have g2:=g1.tl e2
     split at h
     . cases h
     rename_i ps l2 h2
     obtain ⟨e3,c3⟩:=pPars_sound h2 g2;have g3':=g2.of_eq e3;have g3:Good l2:=g3'.tl rfl
     split at h
     . cases h
     rename_i ls l3 h3
     obtain ⟨e4,c4⟩:=pList_sound tLocal (by decide) _ [] _ _ _ h3 g3
     have e4':l2=lstT tLocal ls++l3:=by simpa [lstT] using e4
     have g4:=g3.of_eq e4'
     split at h
     . cases h
     rename_i b l4 h4
     obtain ⟨e5,f5,c5⟩:=pBlock_sound _ _ _ _ h4 g4;obtain ⟨rfl,rfl⟩:=Prod.mk.inj (Option.some.inj h);have k2:l1.tail.length<=4096:=g2.2;have k3:=g3.2;have k4:=g4.2;refine ⟨?_,pr_fine (by omega) (by simp at c4;omega) (by omega) f5⟩;refine ep.trans ?_
     rw [e,show (pubL l).tail=wTk n :: l1 from e1,e2,show l1.tail=namesC ps++kTk tRp :: l2 from e3,e4',e5];simp [tP]
   . cases h
 . cases h
theorem pDecls_sound:∀ (f:Nat) (acc:List De) (l l':List Tk) (ds:List De),pDecls f acc l=some (ds,l')->Good l->D.fines (desD acc)->acc.flatMap tD++l=ds.flatMap tD++l'/\D.fines (desD ds)/\ds.length<=acc.length+l.length
 | 0,_,_,_,_,h,_,_=>by simp [pDecls] at h
 | f + 1,acc,l,l',ds,h,hg,hf=>by
   unfold pDecls at h
   split at h
   . split at h
     . cases h
     rename_i d l1 h1
     obtain ⟨e1,f1⟩:=pDecl_sound h1 hg;have hlt:=pDecl_lt h1;obtain ⟨e2,f2,c2⟩:=pDecls_sound f (acc++[d]) l1 l' ds h (hg.of_eq e1) (by rw [show desD (acc++[d])=desD acc++d.ds from by simp [desD]];exact D.fines_append hf f1);refine ⟨?_,f2,by simp at c2;omega⟩
     rw [← e2,e1];simp
   . obtain ⟨rfl,rfl⟩:=Prod.mk.inj (Option.some.inj h)
     exact ⟨rfl,hf,by omega⟩
theorem pProcs_sound:∀ (f:Nat) (acc:List Pr) (l l':List Tk) (ps:List Pr),pProcs f acc l=some (ps,l')->Good l->D.fines (prsD acc)->acc.flatMap tP++l=ps.flatMap tP++kTk tMain :: l'/\D.fines (prsD ps)/\ps.length<=acc.length+l.length
 | 0,_,_,_,_,h,_,_=>by simp [pProcs] at h
 | f + 1,acc,l,l',ps,h,hg,hf=>by
   unfold pProcs at h
   split at h
   . rename_i hs
     obtain ⟨rfl,rfl⟩:=Prod.mk.inj (Option.some.inj h);exact ⟨by rw [← sk_tok hg.1 (by decide) hs],hf,by omega⟩
   . split at h
     . cases h
     rename_i p l1 h1
     obtain ⟨e1,f1⟩:=pProc_sound h1 hg;have hlt:=pProc_lt h1;obtain ⟨e2,f2,c2⟩:=pProcs_sound f (acc++[p]) l1 l' ps h (hg.of_eq e1) (by rw [show prsD (acc++[p])=prsD acc++p.ds from by simp [prsD]];exact D.fines_append hf f1);refine ⟨?_,f2,by simp at c2;omega⟩
     rw [← e2,e1];simp
def tM (m:Mo):List Tk:=kTk tModule :: wTk m.name :: kTk tLb :: (lstT tUse m.uses++(m.decls.flatMap tD++(m.procs.flatMap tP++kTk tMain :: (brT (tSs m.main)++[kTk tRb]))))
structure Fine (m:Mo):Prop where
 uses:m.uses.length<=10000
 decls:m.decls.length<=10000
 procs:m.procs.length<=10000
 main:m.main.length<=10000
 fd:D.fines (desD m.decls)
 fp:D.fines (prsD m.procs)
 fm:D.fines (stsD m.main)
theorem pModule_sound {l l':List Tk} {m:Mo} (h:pModule l=some (m,l')) (hg:Good l):l=tM m++l'/\Fine m:=by
 unfold pModule at h
 split at h
 . rename_i hs
   have e:=sk_tok hg.1 (by decide) hs
   split at h
   . cases h
   rename_i n l1 h1
   obtain ⟨e1,n1⟩:=name_tok (hg.tl e).1 h1;have g1:=(hg.tl e).tl e1
   split at h
   . rename_i hs2
     have e2:=sk_tok g1.1 (by decide) hs2;have g2:=g1.tl e2;have k2:l1.tail.length<=4096:=g2.2
     split at h
     . cases h
     rename_i us l2 h2
     obtain ⟨e3,c3⟩:=pList_sound tUse (by decide) _ [] _ _ _ h2 g2
     have e3':l1.tail=lstT tUse us++l2:=by simpa [lstT] using e3
     have g3:=g2.of_eq e3';have k3:=g3.2
     split at h
     . cases h
     rename_i ds l3 h3
     obtain ⟨e4,f4,c4⟩:=pDecls_sound _ [] _ _ _ h3 g3 fines_nil
     have e4':l2=ds.flatMap tD++l3:=by simpa using e4
     have g4:=g3.of_eq e4';have k4:=g4.2
     split at h
     . cases h
     rename_i ps l4 h4
     obtain ⟨e5,f5,c5⟩:=pProcs_sound _ [] _ _ _ h4 g4 fines_nil
     have e5':l3=ps.flatMap tP++kTk tMain :: l4:=by simpa using e5
     have g5:Good l4:=(g4.of_eq e5').tl rfl;have k5:=g5.2
     split at h
     . cases h
     rename_i b l5 h5
     obtain ⟨e6,f6,c6⟩:=pBlock_sound _ _ _ _ h5 g5;have g6:=g5.of_eq e6
     split at h
     . rename_i hs3
       have e7:=sk_tok g6.1 (by decide) hs3;obtain ⟨rfl,rfl⟩:=Prod.mk.inj (Option.some.inj h);refine ⟨?_,⟨by show us.length<=10000;simp at c3 k2;omega,by show ds.length<=10000;simp at c4;omega,by show ps.length<=10000;simp at c5;omega,by show b.length<=10000;omega,f4,f5,f6⟩⟩
       rw [e,show l.tail=wTk n :: l1 from e1,e2,e3',e4',e5',e6,e7];simp [tM]
     . cases h
   . cases h
 . cases h
end Go.Proofs.YtndkhgakfodldaaGreatDoor

namespace Go.Proofs.YtndkhgakfodldaaGreatDoor
open Go.RowKit
inductive exOk:Ex->Prop
 | mk {op n:Int} {m nm:ByteArray} {args:List Ex} (h1:exB op=true) (h2:refOk (exS op) m nm=true) (h3:nOk (exS op) n=true) (h4:countOk (exS op) args.length=true) (h5:∀ a ∈ args,exOk a):exOk (.mk op n m nm args)
theorem ex_ok:∀ (k:Nat) (l:List Ex),exKinds k l=true->exMany k l=false->exForm k l=true->∀ x ∈ l,exOk x
 | 0,l,_,h2,_,x,hx=>by
   simp [exMany] at h2;rw [h2] at hx;cases hx
 | k+1,l,h1,h2,h3,x,hx=>by
   simp only [exKinds,List.all_eq_true] at h1;simp only [exMany,Bool.or_eq_false_iff] at h2;simp only [exForm,List.all_eq_true] at h3;have a1:=h1 x hx;have a3:=h3 x hx
   have a2:exMany k x.args=false:=by
    have:=h2.2;rw [List.any_eq_false] at this;simpa using this x hx
   simp only [Bool.and_eq_true] at a1 a3;obtain ⟨op,n,m,nm,args⟩:=x;exact .mk a1.1 a3.1 a3.2.1 a3.2.2.1 (ex_ok k args a1.2 a2 a3.2.2.2)
theorem dec_nil {α:Type} {l:List α} (h:decide (0<l.length)=false):l=[]:=List.eq_nil_of_length_eq_zero (by have:=of_decide_eq_false h;omega)
inductive stOk:St->Prop
 | mk {op:Int} {m nm:ByteArray} {args:List Ex} {body other:List St} (h1:stB op=true) (h2:refOk (stS op) m nm=true) (h3:countOk (stS op) args.length=true) (h4:∀ a ∈ args,exOk a) (h5:(stS op).body=true\/body=[]) (h6:(stS op).other=true\/other=[]) (h7:∀ s ∈ body,stOk s) (h8:∀ s ∈ other,stOk s):stOk (.mk op m nm args body other)
theorem st_ok:∀ (k:Nat) (l:List St),stKinds k l=true->stMany k l=false->stForm k l=true->∀ s ∈ l,stOk s
 | 0,l,_,h2,_,x,hx=>by simp [stMany] at h2
 | k + 1,l,h1,h2,h3,x,hx=>by
   simp only [stKinds,List.all_eq_true] at h1;simp only [stMany,Bool.or_eq_false_iff] at h2;simp only [stForm,List.all_eq_true] at h3;have a1:=h1 x hx;have a3:=h3 x hx;have a2:=h2.2;rw [List.any_eq_false] at a2;have a2:=a2 x hx;simp only [Bool.and_eq_true] at a1 a3;simp only [Bool.not_eq_true,Bool.or_eq_false_iff,Bool.and_eq_false_iff] at a2;obtain ⟨op,m,nm,args,body,other⟩:=x
   have hb:(stS op).body=true\/body=[]:=by
    have:=a3.2.2.2.1;simp [St.op,St.body] at this;exact this
   have ho:(stS op).other=true\/other=[]:=by
    have:=a3.2.2.2.2.1;simp [St.op,St.other] at this;exact this
   have hbm:body=[]\/stMany k body=false:=by
    rcases a2.2.1 with h | h
    . left
      simp [St.op,St.body] at h;exact dec_nil h.2
    . exact Or.inr h
   have hom:other=[]\/stMany k other=false:=by
    rcases a2.2.2 with h | h
    . left
      exact dec_nil h
    . exact Or.inr h
   refine .mk a1.1 a3.1 a3.2.1 (ex_ok 6 args a1.2.1 a2.1 a3.2.2.1) hb ho ?_ ?_
   . rcases hbm with h | h
     . rw [h];intro s hs;cases hs
     . exact st_ok k body a1.2.2.1 h a3.2.2.2.2.2.1
   . rcases hom with h | h
     . rw [h];intro s hs;cases hs
     . exact st_ok k other a1.2.2.2 h a3.2.2.2.2.2.2
structure moOk (m:Mo):Prop where
 name:nameOk m.name=true
 uses:∀ u ∈ m.uses,nameOk u=true
 decls:∀ d ∈ m.decls,nameOk d.name=true/\sizeOk d=true/\1<=d.kind/\d.kind<=3
 procs:∀ p ∈ m.procs,nameOk p.name=true/\(∀ n ∈ p.params,nameOk n=true)/\(∀ n ∈ p.locals,nameOk n=true)/\(∀ s ∈ p.body,stOk s)
 main:∀ s ∈ m.main,stOk s
theorem err_zero {m:Mo} (h:m.err=0):m.kinds=true/\m.many=false/\m.form=true:=by
 unfold Mo.err at h
 cases hk:m.kinds with
 | false=>rw [hk] at h;simp at h
 | true=>
   rw [hk] at h
   cases hm:m.many with
   | true=>rw [hm] at h;simp at h
   | false=>
     rw [hm] at h
     cases hf:m.form with
     | false=>rw [hf] at h;simp at h
     | true=>exact ⟨rfl,rfl,rfl⟩
theorem mo_ok {m:Mo} (h:m.err=0):moOk m:=by
 obtain ⟨hk,hm,hf⟩:=err_zero h;unfold Mo.kinds at hk;unfold Mo.many at hm;unfold Mo.form at hf;simp only [Bool.and_eq_true,List.all_eq_true,decide_eq_true_eq] at hk hf;simp only [Bool.or_eq_false_iff] at hm;have hmb:=hm.2.2.2.2;rw [List.any_eq_false] at hmb
 have body:∀ b ∈ m.bodies,∀ s ∈ b,stOk s:=fun b hb=>st_ok 6 b (hk.2 b hb) (by simpa using hmb b hb) (hf.2.2.2.2 b hb)
 exact {
  name:=hf.1
  uses:=hf.2.1
  decls:=fun d hd=>⟨(hf.2.2.1 d hd).1,(hf.2.2.1 d hd).2,hk.1 d hd⟩
  procs:=fun p hp=>⟨(hf.2.2.2.1 p hp).1,(hf.2.2.2.1 p hp).2.1,(hf.2.2.2.1 p hp).2.2,body p.body (by unfold Mo.bodies;simp;exact Or.inl ⟨p,hp,rfl⟩)⟩
  main:=body m.main (by unfold Mo.bodies;simp) }
theorem Right.append {a b:List Tk} (h:Right a) (k:Right b):Right (a++b):=⟨by rw [List.all_append,h.1,k.1];rfl,by rw [List.all_append,h.2,k.2];rfl⟩
theorem Right.cons {t:Tk} {b:List Tk} (h:Right [t]) (k:Right b):Right (t :: b):=Right.append (a:=[t]) h k
theorem Right.nil:Right []:=⟨rfl,rfl⟩
end Go.Proofs.YtndkhgakfodldaaGreatDoor
