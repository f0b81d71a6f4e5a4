/-
  The document's own reader, said without the program: statements and blocks; and it reads the tokens of a right block as that block.
-/
import Derived.Test.YtcekpobmbmnplaaGreatDoorQh
namespace Go.Proofs.YtcekpobmbmnplaaGreatDoor
open Go.RowKit
def eStmt (B:List Tk->List St × List Tk) (l:List Tk):St × List Tk:=
 if skB l tIf then
  (if skB (B (eExpr 7 l.tail).2).2 tElse then (.mk 4 ⟨#[]⟩ ⟨#[]⟩ [(eExpr 7 l.tail).1] (B (eExpr 7 l.tail).2).1 (B (B (eExpr 7 l.tail).2).2.tail).1,(B (B (eExpr 7 l.tail).2).2.tail).2)
   else (.mk 4 ⟨#[]⟩ ⟨#[]⟩ [(eExpr 7 l.tail).1] (B (eExpr 7 l.tail).2).1 [],(B (eExpr 7 l.tail).2).2))
 else if skB l tWhile then (.mk 5 ⟨#[]⟩ ⟨#[]⟩ [(eExpr 7 l.tail).1] (B (eExpr 7 l.tail).2).1 [],(B (eExpr 7 l.tail).2).2)
 else if skB l tReturn then (.mk 6 ⟨#[]⟩ ⟨#[]⟩ [(eExpr 7 l.tail).1] [] [],eTk (eExpr 7 l.tail).2 tSem)
 else if skB l tOut then (.mk 7 ⟨#[]⟩ ⟨#[]⟩ [(eExpr 7 l.tail).1] [] [],eTk (eExpr 7 l.tail).2 tSem)
 else if skB (eRef l).2 tLp then (.mk 3 (eRef l).1.1 (eRef l).1.2 (eList (eExpr 7) (eRef l).2.tail).1 [] [],eTk (eList (eExpr 7) (eRef l).2.tail).2 tSem)
 else if skB (eRef l).2 tLs then
  (.mk 2 (eRef l).1.1 (eRef l).1.2 [(eExpr 7 (eRef l).2.tail).1,(eExpr 7 (eTk (eTk (eExpr 7 (eRef l).2.tail).2 tRs) tEq)).1] [] [],eTk (eExpr 7 (eTk (eTk (eExpr 7 (eRef l).2.tail).2 tRs) tEq)).2 tSem)
 else (.mk 1 (eRef l).1.1 (eRef l).1.2 [(eExpr 7 (eTk (eRef l).2 tEq)).1] [] [],eTk (eExpr 7 (eTk (eRef l).2 tEq)).2 tSem)
def zdx (S:List Tk->St × List Tk):Nat->List St->List Tk->List St × List Tk
 | 0,acc,l=>if skB l tRb then (acc,l.tail) else (acc,l)
 | j+1,acc,l=>
   if skB l tRb then (acc,l.tail) else if l.length=0 then (acc,l)
   else if (S l).2.length=l.length then (acc++[(S l).1],(S l).2) else zdx S j (acc++[(S l).1]) (S l).2
def eBlock:Nat->List Tk->List St × List Tk
 | 0,l=>([],l)
 | k+1,l=>if skB l tLb then zdx (eStmt (eBlock k)) 11 [] l.tail else ([],l)
theorem zy3 {x:Ex} {l:List Ex} (h:zao 6 l=false) (ho:∀ y ∈ l,exOk y) (hx:x ∈ l) (r:List Tk) (hr:Fol r):eExpr 7 (tE x++r)=(x,r):=zye 6 l h ho x hx 7 r (by omega) hr
theorem zse {s:St} (h:stOk s) (hm:zao 6 s.args=false) (B:List Tk->List St × List Tk) (hb:(stS s.op).body=true->∀ r,B (brT (tSs s.body)++r)=(s.body,r)) (ho:0<s.other.length->∀ r,B (brT (tSs s.other)++r)=(s.other,r)) (r:List Tk) (hr:skB r tElse=false):eStmt B (tS s++r)=(s,r):=by
 cases h with
 | @mk op m nm args body other h1 h2 h3 h4 h5 h6 h7 h8=>
   have hX:∀ x ∈ args,∀ r,Fol r->eExpr 7 (tE x++r)=(x,r):=fun x hx r hr=>zy3 hm h4 hx r hr
   have hA:=(zik 6 args hm).2;simp only [St.op,St.body,St.other] at hb ho;simp only [tS]
   have nm1:∀ rr,zae nm=true->(m.size=0\/zae m=true)->skB rr tDot=false->eStmt B (refT m nm++rr) =
    (if skB rr tLp then (.mk 3 m nm (eList (eExpr 7) rr.tail).1 [] [],eTk (eList (eExpr 7) rr.tail).2 tSem)
    else if skB rr tLs then (.mk 2 m nm [(eExpr 7 rr.tail).1,(eExpr 7 (eTk (eTk (eExpr 7 rr.tail).2 tRs) tEq)).1] [] [],eTk (eExpr 7 (eTk (eTk (eExpr 7 rr.tail).2 tRs) tEq)).2 tSem)
    else (.mk 1 m nm [(eExpr 7 (eTk rr tEq)).1] [] [],eTk (eExpr 7 (eTk rr tEq)).2 tSem)):=fun rr a b hd=>by
    have hR:=zhy (n:=nm) b rr hd;obtain ⟨c,l',e,hc⟩:=zgn a b rr;rw [e] at hR ⊢;unfold eStmt;rw [if_neg (by rw [skW hc _ _ (by decide)];decide),if_neg (by rw [skW hc _ _ (by decide)];decide),if_neg (by rw [skW hc _ _ (by decide)];decide),if_neg (by rw [skW hc _ _ (by decide)];decide),hR]
   rcases zl9 h1 with rfl | rfl | rfl | rfl | rfl | rfl | rfl
   . obtain ⟨a,b⟩:=zbs rfl h2
     obtain ⟨y,rfl⟩:=zld (zay (h:=stS 1) (n:=1) h3 rfl rfl);obtain rfl:=h5.resolve_left (by decide);obtain rfl:=h6.resolve_left (by decide);rw [show zbv 1 m nm (tEs [y]) (tSs []) (tSs []) (([]:List St).length)++r=refT m nm++kTk tEq :: (tE y++kTk tSem :: r) from by simp [zbv,zb0,tEs]];rw [nm1 _ a b (by rw [skK];decide),if_neg (by rw [skK];decide),if_neg (by rw [skK];decide),zk7,hX y (by simp) _ (zk2 (by decide))];show (St.mk 1 m nm [y] [] [],eTk (kTk tSem :: r) tSem)=_;rw [zk7]
   . obtain ⟨a,b⟩:=zbs rfl h2
     obtain ⟨y,z,rfl⟩:=z0r (zay (h:=stS 2) (n:=2) h3 rfl rfl);obtain rfl:=h5.resolve_left (by decide);obtain rfl:=h6.resolve_left (by decide);rw [show zbv 2 m nm (tEs [y,z]) (tSs []) (tSs []) (([]:List St).length)++r=refT m nm++kTk tLs :: (tE y++kTk tRs :: kTk tEq :: (tE z++kTk tSem :: r)) from by simp [zbv,zb0,tEs]];rw [nm1 _ a b (by rw [skK];decide),if_neg (by rw [skK];decide),if_pos (by rw [skK];rfl),List.tail_cons,hX y (by simp) _ (zk2 (by decide))];simp only [zk7];rw [hX z (by simp) _ (zk2 (by decide))];show (St.mk 2 m nm [y,z] [] [],eTk (kTk tSem :: r) tSem)=_;rw [zk7]
   . obtain ⟨a,b⟩:=zbs rfl h2
     obtain rfl:=h5.resolve_left (by decide);obtain rfl:=h6.resolve_left (by decide);rw [show zbv 3 m nm (tEs args) (tSs []) (tSs []) (([]:List St).length)++r=refT m nm++kTk tLp :: (commas (tEs args)++kTk tRp :: kTk tSem :: r) from by simp [zbv,zb0]];rw [nm1 _ a b (by rw [skK];decide),if_pos (by rw [skK];rfl),List.tail_cons,zln (eExpr 7) h4 hA hX];show (St.mk 3 m nm args [] [],eTk (kTk tSem :: r) tSem)=_;rw [zk7]
   . obtain ⟨rfl,rfl⟩:=zbh (sh:=stS 4) rfl h2
     obtain ⟨y,rfl⟩:=zld (zay (h:=stS 4) (n:=1) h3 rfl rfl);rw [show zbv 4 ⟨#[]⟩ ⟨#[]⟩ (tEs [y]) (tSs body) (tSs other) other.length++r=kTk tIf :: (tE y++(brT (tSs body)++((if other.length=0 then [] else kTk tElse :: brT (tSs other))++r))) from by simp [zbv,tEs]];unfold eStmt;rw [if_pos (by rw [skK];rfl),List.tail_cons,hX y (by simp) _ (znj _ _)];simp only [hb rfl]
     by_cases h0:other.length=0
     . obtain rfl:=List.eq_nil_of_length_eq_zero h0
       show (if skB r tElse=true then _ else _)=_
       rw [if_neg (by rw [hr];decide)];rfl
     . rw [if_neg h0]
       rw [show (kTk tElse :: brT (tSs other))++r=kTk tElse :: (brT (tSs other)++r) from rfl,if_pos (by rw [skK];rfl),List.tail_cons,ho (by omega)]
   . obtain ⟨rfl,rfl⟩:=zbh (sh:=stS 5) rfl h2
     obtain ⟨y,rfl⟩:=zld (zay (h:=stS 5) (n:=1) h3 rfl rfl);obtain rfl:=h6.resolve_left (by decide);rw [show zbv 5 ⟨#[]⟩ ⟨#[]⟩ (tEs [y]) (tSs body) (tSs []) (([]:List St).length)++r=kTk tWhile :: (tE y++(brT (tSs body)++r)) from by simp [zbv,tEs]];unfold eStmt;rw [if_neg (by rw [skK];decide),if_pos (by rw [skK];rfl),List.tail_cons,hX y (by simp) _ (znj _ _)];simp only [hb rfl]
   . obtain ⟨rfl,rfl⟩:=zbh (sh:=stS 6) rfl h2
     obtain ⟨y,rfl⟩:=zld (zay (h:=stS 6) (n:=1) h3 rfl rfl);obtain rfl:=h5.resolve_left (by decide);obtain rfl:=h6.resolve_left (by decide);rw [show zbv 6 ⟨#[]⟩ ⟨#[]⟩ (tEs [y]) (tSs []) (tSs []) (([]:List St).length)++r=kTk tReturn :: (tE y++kTk tSem :: r) from by simp [zbv,zb0,tEs]];unfold eStmt;rw [if_neg (by rw [skK];decide),if_neg (by rw [skK];decide),if_pos (by rw [skK];rfl),List.tail_cons,hX y (by simp) _ (zk2 (by decide))];show (St.mk 6 ⟨#[]⟩ ⟨#[]⟩ [y] [] [],eTk (kTk tSem :: r) tSem)=_;rw [zk7]
   . obtain ⟨rfl,rfl⟩:=zbh (sh:=stS 7) rfl h2
     obtain ⟨y,rfl⟩:=zld (zay (h:=stS 7) (n:=1) h3 rfl rfl);obtain rfl:=h5.resolve_left (by decide);obtain rfl:=h6.resolve_left (by decide);rw [show zbv 7 ⟨#[]⟩ ⟨#[]⟩ (tEs [y]) (tSs []) (tSs []) (([]:List St).length)++r=kTk tOut :: (tE y++kTk tSem :: r) from by simp [zbv,zb0,tEs]];unfold eStmt;rw [if_neg (by rw [skK];decide),if_neg (by rw [skK];decide),if_neg (by rw [skK];decide),if_pos (by rw [skK];rfl),List.tail_cons,hX y (by simp) _ (zk2 (by decide))];show (St.mk 7 ⟨#[]⟩ ⟨#[]⟩ [y] [] [],eTk (kTk tSem :: r) tSem)=_;rw [zk7]
theorem zjz (S:List Tk->St × List Tk):∀ (l:List St),(∀ s ∈ l,stOk s)->(∀ s ∈ l,∀ r,skB r tElse=false->S (tS s++r)=(s,r))->∀ (j:Nat) (acc:List St) (r:List Tk),l.length<j->zdx S j acc (tSs l++kTk tRb :: r)=(acc++l,r)
 | [],_,_,j,acc,r,hj=>by
   obtain ⟨j,rfl⟩:∃ g,j=g+1:=⟨j - 1,by omega⟩
   show zdx S (j+1) acc (kTk tRb :: r)=_
   rw [zdx,if_pos (by rw [skK];rfl),List.append_nil];rfl
 | s :: l,ho,hS,j,acc,r,hj=>by
   obtain ⟨j,rfl⟩:∃ g,j=g+1:=⟨j - 1,by omega⟩
   simp only [List.length_cons] at hj;have hp:=zrr (ho s (by simp));simp only [tSs,List.append_assoc]
   rw [zdx,if_neg (by rw [zni (ho s (by simp)) _ (by decide)];decide),if_neg (by rw [List.length_append];omega),hS s (by simp) _ (zor (fun x hx=>ho x (by simp [hx])) _ (by decide) (by decide) r),
    if_neg (by show ¬ (tSs l++kTk tRb :: r).length=(tS s++(tSs l++kTk tRb :: r)).length;simp only [List.length_append];omega)]
   show zdx S j (acc++[s]) (tSs l++kTk tRb :: r)=_;rw [zjz S l (fun x hx=>ho x (by simp [hx])) (fun x hx=>hS x (by simp [hx])) j (acc++[s]) r (by omega)];simp
theorem zfw:∀ (k:Nat) (l:List St),zak k l=false->(∀ s ∈ l,stOk s)->∀ r,eBlock k (brT (tSs l)++r)=(l,r)
 | 0,l,h,_,_=>by simp [zak] at h
 | k + 1,l,h,ho,r=>by
   simp only [zak,Bool.or_eq_false_iff] at h
   have h10:l.length<=10:=by have:=of_decide_eq_false h.1;omega
   rw [eBlock];show (if skB (kTk tLb :: ((tSs l++[kTk tRb])++r)) tLb=true then zdx (eStmt (eBlock k)) 11 [] ((tSs l++[kTk tRb])++r) else _)=_;rw [if_pos (by rw [skK];rfl),show (tSs l++[kTk tRb])++r=tSs l++kTk tRb :: r from by simp];rw [zjz (eStmt (eBlock k)) l ho (fun s hs r hr=>?_) 11 [] r (by omega)]
   . rfl
   . have a2:=h.2
     rw [List.any_eq_false] at a2;have a2:=a2 s hs;simp only [Bool.not_eq_true,Bool.or_eq_false_iff,Bool.and_eq_false_iff] at a2;have hos:=ho s hs
     have hbo:(∀ x ∈ s.body,stOk x)/\(∀ x ∈ s.other,stOk x):=by
      cases hos with
      | mk _ _ _ _ _ _ h7 h8=>exact ⟨h7,h8⟩
     refine zse hos a2.1 (eBlock k) (fun hb r=>?_) (fun h0 r=>?_) r hr
     . rcases a2.2.1 with h' | h'
       . rw [hb] at h';cases h'.1
       . exact zfw k s.body h' hbo.1 r
     . rcases a2.2.2 with h' | h'
       . have:=of_decide_eq_false h';omega
       . exact zfw k s.other h' hbo.2 r
end Go.Proofs.YtcekpobmbmnplaaGreatDoor

namespace Go.Proofs.YtcekpobmbmnplaaGreatDoor
open Go.RowKit
def eUses (t:ByteArray):Nat->List ByteArray->List Tk->List ByteArray × List Tk
 | 0,acc,l=>(acc,l)
 | f+1,acc,l=>if skB l t then eUses t f (acc++[(eName l.tail).1]) (eTk (eName l.tail).2 tSem) else (acc,l)
def zex (p:Bool) (l:List Tk):Option (De × List Tk):=
 if skB l tConst then some (⟨1,(eName l.tail).1,p,(eNum (eTk (eName l.tail).2 tEq)).1⟩,eTk (eNum (eTk (eName l.tail).2 tEq)).2 tSem)
 else if skB l tVar then some (⟨2,(eName l.tail).1,p,0⟩,eTk (eName l.tail).2 tSem)
 else if skB l tArray then some (⟨3,(eName l.tail).1,p,(eNum (eTk (eName l.tail).2 tLs)).1⟩,eTk (eTk (eNum (eTk (eName l.tail).2 tLs)).2 tRs) tSem)
 else none
def eDecls:Nat->Bool->List De->List Tk->(List De × Bool) × List Tk
 | 0,p,acc,l=>((acc,p),l)
 | f+1,p,acc,l=>match zex p l with
   | none=>((acc,p),l)
   | some (d,l1)=>eDecls f (skB l1 tPub) (acc++[d]) (eTk l1 tPub)
def ze9:Nat->List ByteArray->List Tk->List ByteArray × List Tk
 | 0,acc,l=>(acc,l)
 | f+1,acc,l=>if skB (eName l).2 tCom then ze9 f (acc++[(eName l).1]) (eName l).2.tail else (acc++[(eName l).1],eTk (eName l).2 tRp)
def zey (l:List Tk):List ByteArray × List Tk:=if skB l tRp then ([],l.tail) else ze9 (l.length+1) [] l
def zhe (p:Bool) (l:List Tk):Pr × List Tk:=
 let n:=eName l
 let ps:=zey (eTk n.2 tLp)
 let ls:=eUses zar (ps.2.length+1) [] ps.2
 let b:=eBlock 6 ls.2
 (⟨n.1,p,ps.1,ls.1,b.1⟩,b.2)
def eProcs:Nat->Bool->List Pr->List Tk->List Pr × List Tk
 | 0,_,acc,l=>(acc,l)
 | f+1,p,acc,l=>if skB l tProc then eProcs f (skB (zhe p l.tail).2 tPub) (acc++[(zhe p l.tail).1]) (eTk (zhe p l.tail).2 tPub) else (acc,l)
def eModule (l:List Tk):Mo:=
 let n:=eName (eTk l tModule)
 let us:=eUses tUse ((eTk n.2 tLb).length+1) [] (eTk n.2 tLb)
 let ds:=eDecls (us.2.length+1) (skB us.2 tPub) [] (eTk us.2 tPub)
 let ps:=eProcs (ds.2.length+1) ds.1.2 [] ds.2
 ⟨n.1,us.1,ds.1.1,ps.1,(eBlock 6 (eTk ps.2 tMain)).1⟩
theorem zit (t:ByteArray):∀ (ls:List ByteArray) (f:Nat) (acc:List ByteArray) (r:List Tk),ls.length<f->skB r t=false->eUses t f acc (zb8 t ls++r)=(acc++ls,r)
 | [],f,acc,r,hf,hr=>by
   obtain ⟨f,rfl⟩:∃ g,f=g+1:=⟨f - 1,by omega⟩
   show eUses t (f+1) acc r=_;rw [eUses,if_neg (by rw [hr];decide),List.append_nil]
 | n :: ls,f,acc,r,hf,hr=>by
   obtain ⟨f,rfl⟩:∃ g,f=g+1:=⟨f - 1,by omega⟩
   simp only [List.length_cons] at hf;rw [show zb8 t (n :: ls)++r=kTk t :: wTk n :: kTk tSem :: (zb8 t ls++r) from by simp [zb8]];rw [eUses,if_pos (by rw [skK];exact beq_self_eq_true _),List.tail_cons,zhg];show eUses t f (acc++[n]) (eTk (kTk tSem :: (zb8 t ls++r)) tSem)=_;rw [zk7,zit t ls f (acc++[n]) r (by omega) hr];simp
def zwu (d:De):List Tk:=if d.kind=1 then [kTk tConst,wTk d.name,kTk tEq,nTk d.n,kTk tSem] else if d.kind=2 then [kTk tVar,wTk d.name,kTk tSem] else [kTk tArray,wTk d.name,kTk tLs,nTk d.n,kTk tRs,kTk tSem]
theorem z2w (d:De):tD d=pubT d.pub++zwu d:=rfl
theorem zsf {d:De} (h:z2q d) (r:List Tk):zex d.pub (zwu d++r)=some (d,r):=by
 obtain ⟨kind,name,pub,n⟩:=d;obtain ⟨_,hs,h1,h3⟩:=h;simp only at h1 h3
 have hk:kind=1\/kind=2\/kind=3:=by omega
 rcases hk with rfl | rfl | rfl
 . show zex pub (kTk tConst :: wTk name :: kTk tEq :: nTk n :: kTk tSem :: r)=_
   unfold zex;rw [if_pos (by rw [skK];rfl),List.tail_cons,zhg];simp only [zk7];show some ((⟨1,name,pub,n⟩:De),eTk (kTk tSem :: r) tSem)=_;rw [zk7]
 . have h0:n=0:=of_decide_eq_true hs
   subst h0;show zex pub (kTk tVar :: wTk name :: kTk tSem :: r)=_;unfold zex;rw [if_neg (by rw [skK];decide),if_pos (by rw [skK];rfl),List.tail_cons,zhg];simp only [zk7]
 . show zex pub (kTk tArray :: wTk name :: kTk tLs :: nTk n :: kTk tRs :: kTk tSem :: r)=_
   unfold zex;rw [if_neg (by rw [skK];decide),if_neg (by rw [skK];decide),if_pos (by rw [skK];rfl),List.tail_cons,zhg];simp only [zk7];show some ((⟨3,name,pub,n⟩:De),eTk (eTk (kTk tRs :: kTk tSem :: r) tRs) tSem)=_;rw [zk7,zk7]
def Nx (p:Bool) (l:List Tk) (r:List Tk):Prop:=skB l tPub=p/\eTk l tPub=r
theorem zlo (b:Bool) (t:ByteArray) (l:List Tk) (ht:(t.data.toList == tPub.data.toList)=false):Nx b (pubT b++kTk t :: l) (kTk t :: l):=zf4 b t l ht
theorem zy4 (d:De) (r:List Tk):Nx d.pub (tD d++r) (zwu d++r):=by
 rw [z2w,List.append_assoc];unfold zwu;split
 . exact zlo d.pub tConst _ (by decide)
 split
 . exact zlo d.pub tVar _ (by decide)
 . exact zlo d.pub tArray _ (by decide)
theorem zj0:∀ (ds:List De),(∀ d ∈ ds,z2q d)->∀ (f:Nat) (acc:List De) (T R:List Tk) (q:Bool),ds.length<f->Nx q T R->zex q R=none->
 eDecls f (skB (ds.flatMap tD++T) tPub) acc (eTk (ds.flatMap tD++T) tPub)=((acc++ds,q),R)
 | [],_,f,acc,T,R,q,hf,hT,hn=>by
   obtain ⟨f,rfl⟩:∃ g,f=g+1:=⟨f - 1,by omega⟩
   show eDecls (f+1) (skB T tPub) acc (eTk T tPub)=_;rw [hT.1,hT.2,eDecls,hn,List.append_nil]
 | d :: ds,h,f,acc,T,R,q,hf,hT,hn=>by
   obtain ⟨f,rfl⟩:∃ g,f=g+1:=⟨f - 1,by omega⟩
   simp only [List.length_cons] at hf;rw [List.flatMap_cons,List.append_assoc];obtain ⟨n1,n2⟩:=zy4 d (ds.flatMap tD++T);rw [n1,n2,eDecls,zsf (h d (by simp))];show eDecls f (skB (ds.flatMap tD++T) tPub) (acc++[d]) (eTk (ds.flatMap tD++T) tPub)=_;rw [zj0 ds (fun x hx=>h x (by simp [hx])) f (acc++[d]) T R q (by omega) hT hn];simp
theorem zj1:∀ (ps:List ByteArray) (n:ByteArray) (f:Nat) (acc:List ByteArray) (r:List Tk),ps.length<f->ze9 f acc (wTk n :: (zft ps++kTk tRp :: r))=(acc++n :: ps,r)
 | [],n,f,acc,r,hf=>by
   obtain ⟨f,rfl⟩:∃ g,f=g+1:=⟨f - 1,by omega⟩
   show ze9 (f+1) acc (wTk n :: kTk tRp :: r)=_;rw [ze9,zhg,if_neg (by show ¬ skB (kTk tRp :: r) tCom=true;rw [skK];decide)];show (acc++[n],eTk (kTk tRp :: r) tRp)=_;rw [zk7]
 | m :: ps,n,f,acc,r,hf=>by
   obtain ⟨f,rfl⟩:∃ g,f=g+1:=⟨f - 1,by omega⟩
   simp only [List.length_cons] at hf;rw [show zft (m :: ps)++kTk tRp :: r=kTk tCom :: wTk m :: (zft ps++kTk tRp :: r) from by simp [zft]];rw [ze9,zhg,if_pos (by show skB (kTk tCom :: _) tCom=true;rw [skK];rfl)];show ze9 f (acc++[n]) (wTk m :: (zft ps++kTk tRp :: r))=_;rw [zj1 ps m f (acc++[n]) r (by omega)];simp
theorem ztp (ps:List ByteArray):ps.length<=(zft ps).length:=by
 unfold zft
 induction ps with
 | nil=>simp
 | cons a r ih=>simp only [List.flatMap_cons,List.length_append,List.length_cons,List.length_nil];omega
theorem zsg {ps:List ByteArray} (h:∀ n ∈ ps,zae n=true) (r:List Tk):zey (zaz ps++kTk tRp :: r)=(ps,r):=by
 cases ps with
 | nil=>
   show zey (kTk tRp :: r)=_;unfold zey
   rw [if_pos (by rw [skK];rfl)];rfl
 | cons n ps=>
   rw [zhs];show zey (wTk n :: (zft ps++kTk tRp :: r))=_;unfold zey;have:=ztp ps;rw [if_neg (by rw [skW (h n (by simp)) _ _ (by decide)];decide),zj1 ps n _ [] r (by simp only [List.length_cons,List.length_append];omega)]
   rfl
theorem zsh {p:Pr} (h:z1v p) (hm:zak 6 p.body=false) (r:List Tk):zhe p.pub (wTk p.name :: kTk tLp :: (zaz p.params++kTk tRp :: (zb8 zar p.locals++(brT (tSs p.body)++r))))=(p,r):=by
 obtain ⟨name,pub,ps,ls,b⟩:=p;obtain ⟨hn,hp,hl,hb⟩:=h;simp only at hn hp hl hb hm;unfold zhe;have:=zjp zar ls;simp only [zhg,zk7,zsg hp];rw [zit zar ls _ [] _ (by rw [List.length_append];omega) (by show skB (kTk tLb :: _) zar=false;rw [skK];decide)];show ((⟨name,pub,ps,[]++ls,(eBlock 6 (brT (tSs b)++r)).1⟩:Pr),(eBlock 6 (brT (tSs b)++r)).2)=_
 rw [zfw 6 b hm hb r];rfl
theorem ztq (p:Pr) (r:List Tk):Nx p.pub (tP p++r) (kTk tProc :: (wTk p.name :: kTk tLp :: (zaz p.params++kTk tRp :: (zb8 zar p.locals++(brT (tSs p.body)++r))))):=by
 rw [zvv];exact zlo _ _ _ (by decide)
theorem zj2:∀ (ps:List Pr),(∀ p ∈ ps,z1v p/\zak 6 p.body=false)->∀ (f:Nat) (acc:List Pr) (r:List Tk),ps.length<f->
 eProcs f (skB (ps.flatMap tP++kTk tMain :: r) tPub) acc (eTk (ps.flatMap tP++kTk tMain :: r) tPub)=(acc++ps,kTk tMain :: r)
 | [],_,f,acc,r,hf=>by
   obtain ⟨f,rfl⟩:∃ g,f=g+1:=⟨f - 1,by omega⟩
   obtain ⟨n1,n2⟩:=zlo false tMain r (by decide);show eProcs (f+1) (skB (pubT false++kTk tMain :: r) tPub) acc (eTk (pubT false++kTk tMain :: r) tPub)=_;rw [n1,n2,eProcs,if_neg (by rw [skK];decide),List.append_nil]
 | p :: ps,h,f,acc,r,hf=>by
   obtain ⟨f,rfl⟩:∃ g,f=g+1:=⟨f - 1,by omega⟩
   simp only [List.length_cons] at hf;rw [List.flatMap_cons,List.append_assoc];obtain ⟨n1,n2⟩:=ztq p (ps.flatMap tP++kTk tMain :: r);rw [n1,n2,eProcs,if_pos (by rw [skK];rfl),List.tail_cons,zsh (h p (by simp)).1 (h p (by simp)).2];show eProcs f (skB (ps.flatMap tP++kTk tMain :: r) tPub) (acc++[p]) (eTk (ps.flatMap tP++kTk tMain :: r) tPub)=_;rw [zj2 ps (fun x hx=>h x (by simp [hx])) f (acc++[p]) r (by omega)];simp
theorem ztr (ps:List Pr) (r:List Tk) (q:Bool):zex q (eTk (ps.flatMap tP++kTk tMain :: r) tPub)=none:=by
 have key:∀ (t:ByteArray) (l:List Tk),(t.data.toList == tConst.data.toList||(t.data.toList == tVar.data.toList||t.data.toList == tArray.data.toList))=false->zex q (kTk t :: l)=none:=fun t l h=>by
  simp only [Bool.or_eq_false_iff] at h;unfold zex;rw [if_neg (by rw [skK,h.1];decide),if_neg (by rw [skK,h.2.1];decide),if_neg (by rw [skK,h.2.2];decide)]
 cases ps with
 | nil=>
   have:=(zlo false tMain r (by decide)).2;show zex q (eTk (pubT false++kTk tMain :: r) tPub)=none;rw [this];exact key _ _ (by decide)
 | cons p ps=>
   rw [List.flatMap_cons,List.append_assoc,(ztq p _).2];exact key _ _ (by decide)
theorem zn1 {m:Mo} (he:m.err=0):eModule (tM m)=m:=by
 obtain ⟨hn,hu,hd,hp,hb⟩:=zqa he;have hm:=(zjn he).2.1;unfold Mo.many at hm;simp only [Bool.or_eq_false_iff] at hm;have hmb:=hm.2.2.2.2;rw [List.any_eq_false] at hmb
 have hb6:zak 6 m.main=false:=by simpa using hmb m.main (by unfold Mo.bodies;simp)
 have hp6:∀ p ∈ m.procs,z1v p/\zak 6 p.body=false:=fun p h=>⟨hp p h,by simpa using hmb p.body (by unfold Mo.bodies;simp;exact Or.inl ⟨p,h,rfl⟩)⟩
 clear hmb hm he;obtain ⟨name,us,ds,ps,b⟩:=m;simp only at hn hu hd hp hb hb6 hp6;have l1:=zjp tUse us;have l2:ds.length<=(ds.flatMap tD).length:=zgp tD (fun d=>by unfold tD;split<;>(try split)<;>simp) ds;have l3:ps.length<=(ps.flatMap tP).length:=zgp tP (fun p=>by unfold tP;simp only [List.length_append,List.length_cons];omega) ps;unfold eModule tM;simp only [zk7,zhg];rw [zit tUse us _ [] _ (by rw [List.length_append];omega) (zos (zme ps _).2)];simp only;rw [zj0 ds hd _ [] (ps.flatMap tP++kTk tMain :: (brT (tSs b)++[kTk tRb])) _ _ (by rw [List.length_append];omega) ⟨rfl,rfl⟩ (ztr ps _ _)];simp only
 have l4:ps.length<(eTk (ps.flatMap tP++kTk tMain :: (brT (tSs b)++[kTk tRb])) tPub).length+1:=by
  unfold eTk;split
  . rw [List.length_tail,List.length_append,List.length_cons];omega
  . rw [List.length_append];omega
 rw [zj2 ps hp6 _ [] _ l4];simp only [zk7];rw [zfw 6 b hb6 hb]
 rfl
end Go.Proofs.YtcekpobmbmnplaaGreatDoor

namespace Go.Proofs.YtcekpobmbmnplaaGreatDoor
set_option maxRecDepth 100000
set_option maxHeartbeats 400000
open Go.RowKit
structure Ey (R B:Nat) (w:World) (l:List Tk) (a:Option Addr) (cap:Nat):Prop where
 blk:w.heap[R]? = some (.cells #[.slice a l.length cap] 95 (0,0))
 cap_le:l.length<=cap
 toks:l=[]\/∃ b off,a=some ⟨b,off,none⟩/\(b≠R/\b<B)/\TokCells w b off l
 right:zam l
 len:l.length<=4096
 low:B<=w.heap.size
def Ez (R B:Nat) (w:World) (l:List Tk):Prop:=∃ a cap,Ey R B w l a cap
theorem Ez.lt {R B:Nat} {w:World} {l:List Tk} (h:Ez R B w l):R<w.heap.size:=by obtain ⟨a,cap,h⟩:=h;exact zac h.blk
theorem Ez.low {R B:Nat} {w:World} {l:List Tk} (h:Ez R B w l):B<=w.heap.size:=by obtain ⟨a,cap,h⟩:=h;exact h.low
theorem Ez.right {R B:Nat} {w:World} {l:List Tk} (h:Ez R B w l):zam l:=by obtain ⟨a,cap,h⟩:=h;exact h.right
theorem Ez.len {R B:Nat} {w:World} {l:List Tk} (h:Ez R B w l):l.length<=4096:=by obtain ⟨a,cap,h⟩:=h;exact h.len
theorem TokCells.same {w w':World} {b off:Nat} {ts:List Tk} (h:TokCells w b off ts) (hs:w.heap.size<=w'.heap.size) (hb:w'.heap[b]? = w.heap[b]?):TokCells w' b off ts:=by
 have e:∀ j,w'.cell? ⟨b,j,none⟩=w.cell? ⟨b,j,none⟩:=fun j=>World.cell?_of_block (w:=w) hb
 exact ⟨Nat.lt_of_lt_of_le h.lt hs,fun i hi=>(e _).trans (h.kind i hi),fun i hi=>(e _).trans (h.num i hi),fun i hi=>(e _).trans (h.text i hi),h.fits⟩
theorem Ez.moved {R B:Nat} {w w':World} {l:List Tk} (h:Ez R B w l) (hs:w.heap.size<=w'.heap.size) (hR:w'.heap[R]? = w.heap[R]?) (hB:∀ b,b<B->b≠R->w'.heap[b]? = w.heap[b]?):Ez R B w' l:=by
 obtain ⟨a,cap,h⟩:=h;refine ⟨a,cap,hR.trans h.blk,h.cap_le,?_,h.right,h.len,Nat.le_trans h.low hs⟩
 rcases h.toks with h1 | ⟨b,off,h1,h2,h3⟩
 . exact Or.inl h1
 . exact Or.inr ⟨b,off,h1,h2,h3.same hs (hB b h2.2 h2.1)⟩
theorem Ez.belowOf {R B lo:Nat} {w w':World} {l:List Tk} (h:Ez R B w l) (hb:Below lo w w') (hR:R<lo) (hB:B<=lo):Ez R B w' l:=
 h.moved hb.size (hb.block R hR) (fun b h1 _=>hb.block b (by omega))
theorem Ez.later {R B:Nat} {w w':World} {l:List Tk} (h:Ez R B w l) (hb:Below w.heap.size w w'):Ez R B w' l:=h.belowOf hb h.lt h.low
theorem Ez.alloc {R B:Nat} {w:World} {l:List Tk} (h:Ez R B w l) (o:Obj):Ez R B (w.alloc o) l:=h.later ((Below.refl _ _).alloc (Nat.le_refl _) o)
theorem Ez.drew {R B:Nat} {w:World} {l:List Tk} (h:Ez R B w l):Ez R B w.drew l:=h.moved (Nat.le_refl _) rfl (fun _ _ _=>rfl)
theorem Ez.set {R B:Nat} {w:World} {l:List Tk} (h:Ez R B w l) {p:Addr} (hR:p.block≠R) (hB:B<=p.block) (u:Value):Ez R B (w.setCell p u) l:=
 h.moved (by rw [World.size_setCell];exact Nat.le_refl _) (Below.heap_setCell w p u R (by omega)) (fun b h1 _=>Below.heap_setCell w p u b (by omega))
theorem Ez.setAbove {R B:Nat} {w w0:World} {l l0:List Tk} (h:Ez R B w l) (h0:Ez R B w0 l0) {p:Addr} (hp:w0.heap.size<=p.block) (u:Value):Ez R B (w.setCell p u) l:=
 h.set (by have:=h0.lt;omega) (by have:=h0.low;omega) u
theorem Ez.set5 {R B b:Nat} {w w0:World} {l l0:List Tk} (h:Ez R B w l) (h0:Ez R B w0 l0) (hp:w0.heap.size<=b) (v0 v1 v2 v3 v4:Value):Ez R B (set5 w b v0 v1 v2 v3 v4) l:=((((h.setAbove h0 hp v0).setAbove h0 hp v1).setAbove h0 hp v2).setAbove h0 hp v3).setAbove h0 hp v4
theorem Ez.set6 {R B b:Nat} {w w0:World} {l l0:List Tk} (h:Ez R B w l) (h0:Ez R B w0 l0) (hp:w0.heap.size<=b) (v0 v1 v2 v3 v4 v5:Value):Ez R B (set6 w b v0 v1 v2 v3 v4 v5) l:=(h.set5 h0 hp v0 v1 v2 v3 v4).setAbove h0 hp v5
def zcd {α:Type} (R B:Nat) (w:World) (r:α × List Tk) (rep:α->World->Value->Prop) (e:Ending) (w':World):Prop:=
 Keeps R w w'/\∃ v,e = .returned v/\rep r.1 w' v/\Ez R B w' r.2
theorem zyf (t:ByteArray) (ht:0<t.size):skB [] t=false:=by
 cases h:skB [] t with
 | false=>rfl
 | true=>exact absurd rfl (zra ht h)
theorem z0w {x:Tk} {r:List Tk} (hr:zam (x :: r)) (hk:x.kind=2) (t:ByteArray) (ht:0<t.size):skB (x :: r) t=false:=by
 cases h:skB (x :: r) t with
 | false=>rfl
 | true=>
   exfalso
   have e:=za5 hr ht h
   injection e with e1 _
   rw [e1] at hk;unfold kTk at hk;simp only at hk
   split at hk<;>simp at hk
theorem zts (R B:Nat) (l:List Tk) (a:Option Addr) (cap:Nat) (t:ByteArray) (w:World) (h:Ey R B w l a cap) (ht:0<t.size) :
 Calls Tryz.prog 93 #[.pointer (some ⟨R,0,none⟩),.string t] w fun e w'=>e = .returned (.bool (skB l t))/\w'=w:=by
 have hlt:=zac h.blk
 have hc0:w.cell? ⟨R,0,none⟩=some (.slice a l.length cap):=by rw [Lib.cell_of_heap h.blk];rfl
 cases l with
 | nil=>
   rw [zyf t ht];clear h;go_enter Tryz.func93,Tryz.ntmps93;go_wp2_with fail;go_ret;exact ⟨rfl,rfl⟩
 | cons x r=>
   obtain ⟨b,off,rfl,hne,hT⟩:=h.toks.resolve_left (by simp);have k0:=hT.kind 0 (by simp);have k2:=hT.text 0 (by simp);simp only [Nat.zero_mul,Nat.add_zero,List.getElem_cons_zero] at k0 k2;have hbl:=hT.lt;have hpos:decide (0<((x :: r).length:Int))=true:=decide_eq_true (by simp)
   by_cases hk:x.kind=2
   . rw [z0w h.right hk t ht]
     rw [hk] at k0
     have hl:0<(x :: r).length:=by simp
     clear h hT hk;generalize (x :: r).length=n at *;go_enter Tryz.func93,Tryz.ntmps93;go_wp2_with fail;go_ret;exact ⟨rfl,rfl⟩
   . have hkb:(x.kind != 2)=true:=by simp [hk]
     have hl:0<(x :: r).length:=by simp
     clear h hT;generalize (x :: r).length=n at *;go_enter Tryz.func93,Tryz.ntmps93;go_wp2_with fail;go_ret;exact ⟨rfl,rfl⟩
end Go.Proofs.YtcekpobmbmnplaaGreatDoor

namespace Go.Proofs.YtcekpobmbmnplaaGreatDoor
set_option maxRecDepth 100000
set_option maxHeartbeats 400000
open Go.RowKit
theorem Ey.adv {R B b off cap:Nat} {w:World} {x:Tk} {r:List Tk} (h:Ey R B w (x :: r) (some ⟨b,off,none⟩) cap) :
 Ey R B (w.setCell ⟨R,0,none⟩ (.slice (some ⟨b,off+3,none⟩) r.length (cap - 1))) r (some ⟨b,off+3,none⟩) (cap - 1):=by
 have hc:=h.cap_le;have hl:=h.len;simp only [List.length_cons] at hc hl;refine ⟨?_,by omega,?_,h.right.of_cons,by omega,by rw [World.size_setCell];exact h.low⟩
 . simp [World.setCell,Array.getElem?_modify,h.blk]
 . obtain ⟨b',off',e,hne,hT⟩:=h.toks.resolve_left (by simp)
   cases e
   have e:∀ j,(w.setCell ⟨R,0,none⟩ (.slice (some ⟨b,off+3,none⟩) r.length (cap - 1))).cell? ⟨b,j,none⟩=w.cell? ⟨b,j,none⟩:=fun j=>World.cell?_of_block (w:=w) (Below.heap_setCell w _ _ b hne.1)
   refine Or.inr ⟨b,off+3,rfl,hne,by rw [World.size_setCell];exact hT.lt,fun i hi=>(e _).trans ?_,fun i hi=>(e _).trans ?_,fun i hi=>(e _).trans ?_,fun i hi=>?_⟩
   . have:=hT.kind (i+1) (by simp;omega)
     rw [show off+(i+1)*3=off+3+i*3 from by omega] at this;simpa using this
   . have:=hT.num (i+1) (by simp;omega)
     rw [show off+(i+1)*3=off+3+i*3 from by omega] at this;simpa using this
   . have:=hT.text (i+1) (by simp;omega)
     rw [show off+(i+1)*3=off+3+i*3 from by omega] at this;simpa using this
   . have:=hT.fits (i+1) (by simp;omega)
     simpa using this
theorem Ey.done {R B cap:Nat} {w:World} {x:Tk} {r:List Tk} {a:Option Addr} (h:Ey R B w (x :: r) a cap) (hr:r.length=0) (a':Option Addr) (c:Nat) :
 Ey R B (w.setCell ⟨R,0,none⟩ (.slice a' r.length c)) r a' c:=by
 obtain rfl:=List.eq_nil_of_length_eq_zero hr;exact ⟨by simp [World.setCell,Array.getElem?_modify,h.blk],by simp,Or.inl rfl,⟨rfl,rfl⟩,by simp,by rw [World.size_setCell];exact h.low⟩
theorem zaj (R B:Nat) (l:List Tk) (t:ByteArray) (w:World) (h:Ez R B w l) (ht:0<t.size) :
 Calls Tryz.prog 52 #[.pointer (some ⟨R,0,none⟩),.string t] w fun e w'=>e = .returned (.bool (skB l t))/\Ez R B w' (eTk l t)/\Keeps R w w':=by
 obtain ⟨a,cap,h⟩:=h;have HI:=hid (fun w h=>zts R B l a cap t w h ht);have HY:=hid h;have hlt:=zac h.blk
 have hc0:w.cell? ⟨R,0,none⟩=some (.slice a l.length cap):=by rw [Lib.cell_of_heap h.blk];rfl
 have hfz:∀ i,w.frozen? ⟨R,i,none⟩=false:=fun i=>Lib.frozen_of_heap h.blk i
 cases hs:skB l t with
 | false=>
   have he:eTk l t=l:=by unfold eTk;rw [if_neg (by rw [hs];decide)]
   rw [he];have HS:=hid hs;clear h hs he;go_enter Tryz.func52,Tryz.ntmps52;go_wp2_with fail;refine (HI.out _ HY.out).mono ?_;rw [HS.out];rintro e w1 ⟨rfl,h1⟩;obtain rfl:=h1.symm;go_wp2_with fail;go_ret;exact ⟨rfl,⟨_,_,HY.out⟩,Keeps.refl _ _⟩
 | true=>
   cases l with
   | nil=>rw [zyf t ht] at hs;cases hs
   | cons x r=>
     obtain ⟨b,off,rfl,hne,hT⟩:=h.toks.resolve_left (by simp)
     have he:eTk (x :: r) t=r:=by unfold eTk;rw [if_pos hs];rfl
     rw [he];have HS:=hid hs;have HA:=hid h.adv;have HD:=hid h.done;have hcap:=h.cap_le;have hl:=h.len;simp only [List.length_cons] at hcap hl hc0;clear h hs he hT;generalize hn:r.length=n at *;have HN:=hid hn;clear hn;go_enter Tryz.func52,Tryz.ntmps52;go_wp2_with fail;refine (HI.out _ HY.out).mono ?_;rw [HS.out];rintro e w1 ⟨rfl,h1⟩;obtain rfl:=h1.symm;go_wp2_with fail
     all_goals go_ret
     all_goals first
      | exact ⟨rfl,⟨_,_,HA.out⟩,Keeps.setCell R w 0 _⟩
      | exact ⟨rfl,⟨_,_,HD.out (by have:=HN.out;omega) _ _⟩,Keeps.setCell R w 0 _⟩
end Go.Proofs.YtcekpobmbmnplaaGreatDoor

namespace Go.Proofs.YtcekpobmbmnplaaGreatDoor
set_option maxRecDepth 100000
set_option maxHeartbeats 400000
open Go.RowKit
theorem zci (R B:Nat) (l:List Tk) (w:World) (h:Ez R B w l) :
 Calls Tryz.prog 53 #[.pointer (some ⟨R,0,none⟩)] w fun e w'=>e = .returned (.string (eName l).1)/\Ez R B w' (eName l).2/\Keeps R w w':=by
 obtain ⟨a,cap,h⟩:=h;have HY:=hid h;have hlt:=zac h.blk
 have hc0:w.cell? ⟨R,0,none⟩=some (.slice a l.length cap):=by rw [Lib.cell_of_heap h.blk];rfl
 have hfz:∀ i,w.frozen? ⟨R,i,none⟩=false:=fun i=>Lib.frozen_of_heap h.blk i
 cases l with
 | nil=>
   clear h;go_enter Tryz.func53,Tryz.ntmps53;go_wp2_with fail;go_ret;exact ⟨rfl,⟨_,_,HY.out⟩,Keeps.refl _ _⟩
 | cons x r=>
   obtain ⟨b,off,rfl,hne,hT⟩:=h.toks.resolve_left (by simp);have k0:=hT.kind 0 (by simp);have k2:=hT.text 0 (by simp);simp only [Nat.zero_mul,Nat.add_zero,List.getElem_cons_zero] at k0 k2;have hbl:=hT.lt;have hcap:=h.cap_le;have hl:=h.len;have HA:=hid h.adv;have HD:=hid h.done;simp only [List.length_cons] at hcap hl hc0
   by_cases hk:x.kind=1
   . have he:eName (x :: r)=(x.text,r):=if_pos hk
     rw [he];rw [hk] at k0;clear h hT hk he HY;generalize hn:r.length=n at *;have HN:=hid hn;clear hn
     have hz:((n:Int)+1 == 0)=false:=by simp;omega
     go_enter Tryz.func53,Tryz.ntmps53;go_wp2_with fail
     all_goals go_ret
     all_goals first
      | exact ⟨rfl,⟨_,_,HA.out⟩,Keeps.setCell R w 0 _⟩
      | exact ⟨rfl,⟨_,_,HD.out (by have:=HN.out;omega) _ _⟩,Keeps.setCell R w 0 _⟩
   . have he:eName (x :: r)=(⟨#[]⟩,x :: r):=if_neg hk
     rw [he]
     have hkb:(x.kind != 1)=true:=by simp [hk]
     clear h hT he HA HD;generalize hn:r.length=n at *
     have hz:((n:Int)+1 == 0)=false:=by simp;omega
     clear hn;go_enter Tryz.func53,Tryz.ntmps53;go_wp2_with fail;go_ret;exact ⟨rfl,⟨_,_,HY.out⟩,Keeps.refl _ _⟩
theorem Ez.fit {R B:Nat} {w:World} {l:List Tk} (h:Ez R B w l):(eName l).1.size<=maxLen:=by
 obtain ⟨a,cap,h⟩:=h;unfold eName;split
 . cases l with
   | nil=>exact Nat.zero_le _
   | cons x r=>
     obtain ⟨b,off,rfl,hne,hT⟩:=h.toks.resolve_left (by simp);exact hT.fits 0 (by simp)
 . exact Nat.zero_le _
theorem ziu (R B:Nat) (l:List Tk) (w:World) (h:Ez R B w l) :
 Calls Tryz.prog 54 #[.pointer (some ⟨R,0,none⟩)] w fun e w'=>e = .returned (.int .i64 (eNum l).1)/\Ez R B w' (eNum l).2/\Keeps R w w':=by
 obtain ⟨a,cap,h⟩:=h;have HY:=hid h;have hlt:=zac h.blk
 have hc0:w.cell? ⟨R,0,none⟩=some (.slice a l.length cap):=by rw [Lib.cell_of_heap h.blk];rfl
 have hfz:∀ i,w.frozen? ⟨R,i,none⟩=false:=fun i=>Lib.frozen_of_heap h.blk i
 cases l with
 | nil=>
   clear h;go_enter Tryz.func54,Tryz.ntmps54;go_wp2_with fail;go_ret;exact ⟨rfl,⟨_,_,HY.out⟩,Keeps.refl _ _⟩
 | cons x r=>
   obtain ⟨b,off,rfl,hne,hT⟩:=h.toks.resolve_left (by simp);have k0:=hT.kind 0 (by simp);have k2:=hT.num 0 (by simp);simp only [Nat.zero_mul,Nat.add_zero,List.getElem_cons_zero] at k0 k2;have hbl:=hT.lt;have hcap:=h.cap_le;have hl:=h.len;have HA:=hid h.adv;have HD:=hid h.done;simp only [List.length_cons] at hcap hl hc0
   by_cases hk:x.kind=2
   . have he:eNum (x :: r)=(x.n,r):=if_pos hk
     rw [he];rw [hk] at k0;clear h hT hk he HY;generalize hn:r.length=n at *;have HN:=hid hn;clear hn
     have hz:((n:Int)+1 == 0)=false:=by simp;omega
     go_enter Tryz.func54,Tryz.ntmps54;go_wp2_with fail
     all_goals go_ret
     all_goals first
      | exact ⟨rfl,⟨_,_,HA.out⟩,Keeps.setCell R w 0 _⟩
      | exact ⟨rfl,⟨_,_,HD.out (by have:=HN.out;omega) _ _⟩,Keeps.setCell R w 0 _⟩
   . have he:eNum (x :: r)=(0,x :: r):=if_neg hk
     rw [he]
     have hkb:(x.kind != 2)=true:=by simp [hk]
     clear h hT he HA HD;generalize hn:r.length=n at *
     have hz:((n:Int)+1 == 0)=false:=by simp;omega
     clear hn;go_enter Tryz.func54,Tryz.ntmps54;go_wp2_with fail;go_ret;exact ⟨rfl,⟨_,_,HY.out⟩,Keeps.refl _ _⟩
end Go.Proofs.YtcekpobmbmnplaaGreatDoor

namespace Go.Proofs.YtcekpobmbmnplaaGreatDoor
set_option maxRecDepth 100000
set_option maxHeartbeats 400000
open Go.RowKit
theorem zgv (R B:Nat) (l:List Tk) (w:World) (h:Ez R B w l) :
 Calls Tryz.prog 121 #[.pointer (some ⟨R,0,none⟩)] w fun e w'=>e = .returned (.tuple #[.string (eRef l).1.1,.string (eRef l).1.2])/\Ez R B w' (eRef l).2/\Keeps R w w'/\(eRef l).1.1.size<=maxLen/\(eRef l).1.2.size<=maxLen:=by
 have HY:=hid h;have HE:Hid (eRef l=if skB (eName l).2 tDot then (((eName l).1,(eName (eName l).2.tail).1),(eName (eName l).2.tail).2) else ((⟨#[]⟩,(eName l).1),(eName l).2)):=rfl;clear h;go_enter Tryz.func121,Tryz.ntmps121;go_wp2_with fail;refine (zci R B l w HY.out).mono ?_;have hfn:=HY.out.fit;generalize (eName l).1=nm at *;generalize (eName l).2=l1 at *;rintro e w1 ⟨rfl,h1,K1⟩;have H1:=hid h1;have HK1:=hid K1;clear h1 K1;go_wp2_with fail;refine (zaj R B l1 tDot w1 H1.out (by decide)).mono ?_
 cases hs:skB l1 tDot with
 | true=>
   have e1:eTk l1 tDot=l1.tail:=if_pos hs;rw [e1];have HE2:=hid (HE.out.trans (if_pos hs));clear e1 hs HE;rintro e w2 ⟨rfl,h2,K2⟩;have H2:=hid h2;have HK2:=hid (HK1.out.trans K2);clear h2 K2;go_wp2_with fail;refine (zci R B l1.tail w2 H2.out).mono ?_;rintro e w3 ⟨rfl,h3,K3⟩;have H3:=hid h3;have HK3:=hid (HK2.out.trans K3);clear h3 K3;go_wp2_with fail;go_ret2;exact ⟨by rw [HE2.out];rfl,by rw [HE2.out];exact H3.out,HK3.out,by rw [HE2.out];exact hfn,by rw [HE2.out];exact H2.out.fit⟩
 | false=>
   have e1:eTk l1 tDot=l1:=if_neg (by rw [hs];decide);rw [e1];have HE2:=hid (HE.out.trans (if_neg (by rw [hs];decide)));clear e1 hs HE;rintro e w2 ⟨rfl,h2,K2⟩;have H2:=hid h2;have HK2:=hid (HK1.out.trans K2);clear h2 K2;go_wp2_with fail;go_ret2;exact ⟨by rw [HE2.out];rfl,by rw [HE2.out];exact H2.out,HK2.out,by rw [HE2.out];exact Nat.zero_le _,by rw [HE2.out];exact hfn⟩
end Go.Proofs.YtcekpobmbmnplaaGreatDoor
