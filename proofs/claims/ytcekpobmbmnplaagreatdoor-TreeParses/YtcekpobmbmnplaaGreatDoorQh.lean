/-
  The tokens of a right module are read as that module.
-/
import Derived.Test.YtcekpobmbmnplaaGreatDoorVe
import Derived.Test.YtcekpobmbmnplaaGreatDoorTd
import Derived.Test.YtcekpobmbmnplaaGreatDoorRows
import Derived.WalkKit
import Derived.ProofKit
import Derived.OpenShut
import Derived.SizedLaws
import Derived.Deep.Strs
import Derived.Test.YtcekpobmbmnplaaGreatDoorCards
import Derived.Test.YtcekpobmbmnplaaGreatDoorTie
import Derived.Deep.DeepHandedRow
import Derived.Lib.LaidTab
namespace Go.Proofs.YtcekpobmbmnplaaGreatDoor
open Go.RowKit
theorem zf4 (b:Bool) (t:ByteArray) (l:List Tk) (ht:(t.data.toList == tPub.data.toList)=false):skB (pubT b++kTk t :: l) tPub=b/\zhw (pubT b++kTk t :: l)=kTk t :: l:=by
 cases b with
 | true=>
   have h:skB (kTk tPub :: kTk t :: l) tPub=true:=by rw [skK];rfl
   refine ⟨h,?_⟩;show (if skB (kTk tPub :: kTk t :: l) tPub=true then _ else _)=_
   rw [if_pos h];rfl
 | false=>
   have h:skB (kTk t :: l) tPub=false:=by rw [skK];exact ht
   refine ⟨h,?_⟩;show (if skB (kTk t :: l) tPub=true then _ else _)=_
   rw [if_neg (by rw [h];decide)];rfl
theorem zgo (b:Bool) (t:ByteArray) (l:List Tk) (ht:(t.data.toList == tPub.data.toList)=false):zib (pubT b++kTk t :: l)=(t.data.toList == tConst.data.toList||t.data.toList == tVar.data.toList||t.data.toList == tArray.data.toList):=by
 have key:∀ s:ByteArray,(s.toList == tConst.toList||s.toList == tVar.toList||s.toList == tArray.toList)=(s.data.toList == tConst.data.toList||s.data.toList == tVar.data.toList||s.data.toList == tArray.data.toList):=fun s=>by
  rw [Lib.toList_data,Lib.toList_data,Lib.toList_data,Lib.toList_data]
 obtain ⟨h1,_⟩:=zf4 b t l ht;unfold zib;rw [h1]
 cases b with
 | true=>exact key t
 | false=>exact key t
def z2q (d:De):Prop:=zae d.name=true/\zc7 d=true/\1<=d.kind/\d.kind<=3
theorem zvt {d:De} (h:z2q d) (r:List Tk):zcj (tD d++r)=some (d,r)/\zib (tD d++r)=true:=by
 obtain ⟨kind,name,pub,n⟩:=d;obtain ⟨hn,hs,h1,h3⟩:=h;simp only at hn h1 h3
 have hk:kind=1\/kind=2\/kind=3:=by omega
 rcases hk with rfl | rfl | rfl
 . rw [show tD ⟨1,name,pub,n⟩++r=pubT pub++kTk tConst :: (wTk name :: kTk tEq :: nTk n :: kTk tSem :: r) from by simp [tD]]
   obtain ⟨p1,p2⟩:=zf4 pub tConst (wTk name :: kTk tEq :: nTk n :: kTk tSem :: r) (by decide);refine ⟨?_,by rw [zgo _ _ _ (by decide)];decide⟩;unfold zcj;rw [p1,p2,if_pos (by rw [skK];rfl)]
   show (match zc3 (wTk name :: kTk tEq :: nTk n :: kTk tSem :: r) with
    | none=>none
    | some (n,l1)=>if skB l1 tEq then (match zh9 l1.tail with | none=>none | some (k,l2)=>if skB l2 tSem then some ((⟨1,n,pub,k⟩:De),l2.tail) else none) else none)=_
   rw [zgm hn];show (if skB (kTk tEq :: nTk n :: kTk tSem :: r) tEq=true then (match zh9 (nTk n :: kTk tSem :: r) with | none=>none | some (k,l2)=>if skB l2 tSem then some ((⟨1,name,pub,k⟩:De),l2.tail) else none) else none)=_;rw [if_pos (by rw [skK];rfl),z1u];show (if skB (kTk tSem :: r) tSem=true then _ else _)=_
   rw [if_pos (by rw [skK];rfl)];rfl
 . have h0:n=0:=of_decide_eq_true hs
   subst h0;rw [show tD ⟨2,name,pub,0⟩++r=pubT pub++kTk tVar :: (wTk name :: kTk tSem :: r) from by simp [tD]];obtain ⟨p1,p2⟩:=zf4 pub tVar (wTk name :: kTk tSem :: r) (by decide);refine ⟨?_,by rw [zgo _ _ _ (by decide)];decide⟩;unfold zcj;rw [p1,p2,if_neg (by rw [skK];decide),if_pos (by rw [skK];rfl)]
   show (match zc3 (wTk name :: kTk tSem :: r) with
    | none=>none
    | some (n,l1)=>if skB l1 tSem then some ((⟨2,n,pub,0⟩:De),l1.tail) else none)=_
   rw [zgm hn];show (if skB (kTk tSem :: r) tSem=true then _ else _)=_
   rw [if_pos (by rw [skK];rfl)];rfl
 . rw [show tD ⟨3,name,pub,n⟩++r=pubT pub++kTk tArray :: (wTk name :: kTk tLs :: nTk n :: kTk tRs :: kTk tSem :: r) from by simp [tD]]
   obtain ⟨p1,p2⟩:=zf4 pub tArray (wTk name :: kTk tLs :: nTk n :: kTk tRs :: kTk tSem :: r) (by decide);refine ⟨?_,by rw [zgo _ _ _ (by decide)];decide⟩;unfold zcj;rw [p1,p2,if_neg (by rw [skK];decide),if_neg (by rw [skK];decide),if_pos (by rw [skK];rfl)]
   show (match zc3 (wTk name :: kTk tLs :: nTk n :: kTk tRs :: kTk tSem :: r) with
    | none=>none
    | some (n,l1)=>if skB l1 tLs then (match zh9 l1.tail with | none=>none | some (k,l2)=>if skB l2 tRs then (if skB l2.tail tSem then some ((⟨3,n,pub,k⟩:De),l2.tail.tail) else none) else none) else none)=_
   rw [zgm hn];show (if skB (kTk tLs :: nTk n :: kTk tRs :: kTk tSem :: r) tLs=true then (match zh9 (nTk n :: kTk tRs :: kTk tSem :: r) with | none=>none | some (k,l2)=>if skB l2 tRs then (if skB l2.tail tSem then some ((⟨3,name,pub,k⟩:De),l2.tail.tail) else none) else none) else none)=_;rw [if_pos (by rw [skK];rfl),z1u];show (if skB (kTk tRs :: kTk tSem :: r) tRs=true then (if skB (kTk tSem :: r) tSem=true then _ else _) else _)=_
   rw [if_pos (by rw [skK];rfl),if_pos (by rw [skK];rfl)];rfl
theorem zmc:∀ (ds:List De),(∀ d ∈ ds,z2q d)->∀ (f:Nat) (acc:List De) (r:List Tk),ds.length<f->zib r=false->zc5 f acc (ds.flatMap tD++r)=some (acc++ds,r)
 | [],_,f,acc,r,hf,hr=>by
   obtain ⟨f,rfl⟩:∃ g,f=g+1:=⟨f - 1,by omega⟩
   show zc5 (f+1) acc r=_;rw [zc5,if_neg (by rw [hr];decide),List.append_nil]
 | d :: ds,h,f,acc,r,hf,hr=>by
   obtain ⟨f,rfl⟩:∃ g,f=g+1:=⟨f - 1,by omega⟩
   simp only [List.length_cons] at hf;obtain ⟨h1,h2⟩:=zvt (h d (by simp)) (ds.flatMap tD++r);rw [List.flatMap_cons,List.append_assoc,zc5,if_pos h2,h1];show zc5 f (acc++[d]) _=_;rw [zmc ds (fun x hx=>h x (by simp [hx])) f (acc++[d]) r (by omega) hr];simp
theorem zko (t:ByteArray):∀ (ls:List ByteArray),(∀ n ∈ ls,zae n=true)->∀ (f:Nat) (acc:List ByteArray) (r:List Tk),ls.length<f->skB r t=false->zcm t f acc (zb8 t ls++r)=some (acc++ls,r)
 | [],_,f,acc,r,hf,hr=>by
   obtain ⟨f,rfl⟩:∃ g,f=g+1:=⟨f - 1,by omega⟩
   show zcm t (f+1) acc r=_;rw [zcm,if_neg (by rw [hr];decide),List.append_nil]
 | n :: ls,h,f,acc,r,hf,hr=>by
   obtain ⟨f,rfl⟩:∃ g,f=g+1:=⟨f - 1,by omega⟩
   simp only [List.length_cons] at hf;rw [show zb8 t (n :: ls)++r=kTk t :: wTk n :: kTk tSem :: (zb8 t ls++r) from by simp [zb8]];rw [zcm,if_pos (by rw [skK];exact beq_self_eq_true _)];show (match zc3 (wTk n :: kTk tSem :: (zb8 t ls++r)) with | none=>none | some (n,l1)=>if skB l1 tSem then zcm t f (acc++[n]) l1.tail else none)=_;rw [zgm (h n (by simp))];show (if skB (kTk tSem :: (zb8 t ls++r)) tSem=true then zcm t f (acc++[n]) (zb8 t ls++r) else _)=_;rw [if_pos (by rw [skK];rfl),zko t ls (fun x hx=>h x (by simp [hx])) f (acc++[n]) r (by omega) hr];simp
def zft (ps:List ByteArray):List Tk:=ps.flatMap (fun n=>[kTk tCom,wTk n])
theorem zhs:∀ (n:ByteArray) (ps:List ByteArray),zaz (n :: ps)=wTk n :: zft ps
 | n,[]=>by simp [zaz,commas,zft]
 | n,m :: r=>by
   have:=zhs m r;unfold zaz at this ⊢;simp only [List.map_cons] at this ⊢;simp only [commas,this,zft,List.flatMap_cons];simp
theorem zkp:∀ (ps:List ByteArray),(∀ n ∈ ps,zae n=true)->∀ (f:Nat) (acc:List ByteArray) (r:List Tk),ps.length<f->zcb f acc (zft ps++kTk tRp :: r)=some (acc++ps,r)
 | [],_,f,acc,r,hf=>by
   obtain ⟨f,rfl⟩:∃ g,f=g+1:=⟨f - 1,by omega⟩
   show zcb (f+1) acc (kTk tRp :: r)=_
   rw [zcb,if_neg (by rw [skK];decide),if_pos (by rw [skK];rfl),List.append_nil];rfl
 | n :: ps,h,f,acc,r,hf=>by
   obtain ⟨f,rfl⟩:∃ g,f=g+1:=⟨f - 1,by omega⟩
   simp only [List.length_cons] at hf;rw [show zft (n :: ps)++kTk tRp :: r=kTk tCom :: wTk n :: (zft ps++kTk tRp :: r) from by simp [zft]];rw [zcb,if_pos (by rw [skK];rfl)];show (match zc3 (wTk n :: (zft ps++kTk tRp :: r)) with | none=>none | some (n,l1)=>zcb f (acc++[n]) l1)=_;rw [zgm (h n (by simp))];show zcb f (acc++[n]) _=_;rw [zkp ps (fun x hx=>h x (by simp [hx])) f (acc++[n]) r (by omega)];simp
theorem zvu {ps:List ByteArray} (h:∀ n ∈ ps,zae n=true) (r:List Tk):ze5 (zaz ps++kTk tRp :: r)=some (ps,r):=by
 cases ps with
 | nil=>
   show ze5 (kTk tRp :: r)=_;unfold ze5
   rw [if_pos (by rw [skK];rfl)];rfl
 | cons n ps=>
   rw [zhs];show ze5 (wTk n :: (zft ps++kTk tRp :: r))=_;unfold ze5;rw [if_neg (by rw [skW (h n (by simp)) _ _ (by decide)];decide),zgm (h n (by simp))];show zcb ((zft ps++kTk tRp :: r).length+1) [n] _=_
   have hl:ps.length<=(zft ps).length:=by
    unfold zft;clear h
    induction ps with
    | nil=>simp
    | cons a r ih=>simp only [List.flatMap_cons,List.length_append,List.length_cons,List.length_nil];omega
   rw [zkp ps (fun x hx=>h x (by simp [hx])) _ [n] r (by rw [List.length_append];omega)]
   rfl
theorem zjp (t:ByteArray) (l:List ByteArray):l.length<=(zb8 t l).length:=by
 unfold zb8
 induction l with
 | nil=>simp
 | cons a r ih=>simp only [List.flatMap_cons,List.length_append,List.length_cons,List.length_nil];omega
def z1v (p:Pr):Prop:=zae p.name=true/\(∀ n ∈ p.params,zae n=true)/\(∀ n ∈ p.locals,zae n=true)/\(∀ s ∈ p.body,stOk s)
theorem zvv (p:Pr) (r:List Tk):tP p++r=pubT p.pub++kTk tProc :: (wTk p.name :: kTk tLp :: (zaz p.params++kTk tRp :: (zb8 zar p.locals++(brT (tSs p.body)++r)))):=by
 simp [tP]
theorem zvw {p:Pr} (h:z1v p) (r:List Tk):ze6 (tP p++r)=some (p,r):=by
 rw [zvv];obtain ⟨name,pub,ps,ls,b⟩:=p;obtain ⟨hn,hp,hl,hb⟩:=h;simp only at hn hp hl hb;obtain ⟨p1,p2⟩:=zf4 pub tProc (wTk name :: kTk tLp :: (zaz ps++kTk tRp :: (zb8 zar ls++(brT (tSs b)++r)))) (by decide);unfold ze6;simp only;rw [p1,p2,if_pos (by rw [skK];rfl)]
 show (match zc3 (wTk name :: kTk tLp :: (zaz ps++kTk tRp :: (zb8 zar ls++(brT (tSs b)++r)))) with
  | none=>none
  | some (n,l1)=>if skB l1 tLp then (match ze5 l1.tail with
    | none=>none
    | some (ps,l2)=>(match zcm zar (l2.length+1) [] l2 with
      | none=>none
      | some (ls,l3)=>(match pB l3 with | none=>none | some (b,l4)=>some ((⟨n,pub,ps,ls,b⟩:Pr),l4)))) else none)=_
 rw [zgm hn]
 show (if skB (kTk tLp :: (zaz ps++kTk tRp :: (zb8 zar ls++(brT (tSs b)++r)))) tLp=true then (match ze5 (zaz ps++kTk tRp :: (zb8 zar ls++(brT (tSs b)++r))) with
  | none=>none
  | some (ps,l2)=>(match zcm zar (l2.length+1) [] l2 with
    | none=>none
    | some (ls,l3)=>(match pB l3 with | none=>none | some (b,l4)=>some ((⟨name,pub,ps,ls,b⟩:Pr),l4)))) else none)=_
 rw [if_pos (by rw [skK];rfl),zvu hp]
 show (match zcm zar ((zb8 zar ls++(brT (tSs b)++r)).length+1) [] (zb8 zar ls++(brT (tSs b)++r)) with
       | none=>none
       | some (ls,l3)=>(match pB l3 with | none=>none | some (b,l4)=>some ((⟨name,pub,ps,ls,b⟩:Pr),l4)))=_
 have:=zjp zar ls;rw [zko zar ls hl _ [] _ (by rw [List.length_append];omega) (by show skB (kTk tLb :: _) zar=false;rw [skK];decide)];show (match pB (brT (tSs b)++r) with | none=>none | some (b,l4)=>some ((⟨name,pub,ps,ls,b⟩:Pr),l4))=_;rw [zvs hb]
theorem zqc (p:Pr) (r:List Tk):skB (tP p++r) tMain=false/\zib (tP p++r)=false/\skB (tP p++r) tUse=false:=by
 rw [zvv];refine ⟨?_,by rw [zgo _ _ _ (by decide)];decide,?_⟩
 . cases p.pub with
   | true=>show skB (kTk tPub :: _) tMain=false;rw [skK];decide
   | false=>show skB (kTk tProc :: _) tMain=false;rw [skK];decide
 . cases p.pub with
   | true=>show skB (kTk tPub :: _) tUse=false;rw [skK];decide
   | false=>show skB (kTk tProc :: _) tUse=false;rw [skK];decide
theorem zmd:∀ (ps:List Pr),(∀ p ∈ ps,z1v p)->∀ (f:Nat) (acc:List Pr) (r:List Tk),ps.length<f->zcz f acc (ps.flatMap tP++kTk tMain :: r)=some (acc++ps,r)
 | [],_,f,acc,r,hf=>by
   obtain ⟨f,rfl⟩:∃ g,f=g+1:=⟨f - 1,by omega⟩
   show zcz (f+1) acc (kTk tMain :: r)=_
   rw [zcz,if_pos (by rw [skK];rfl),List.append_nil];rfl
 | p :: ps,h,f,acc,r,hf=>by
   obtain ⟨f,rfl⟩:∃ g,f=g+1:=⟨f - 1,by omega⟩
   simp only [List.length_cons] at hf;rw [List.flatMap_cons,List.append_assoc,zcz,if_neg (by rw [(zqc p _).1];decide),zvw (h p (by simp))];show zcz f (acc++[p]) _=_;rw [zmd ps (fun x hx=>h x (by simp [hx])) f (acc++[p]) r (by omega)];simp
theorem zme (ps:List Pr) (r:List Tk):zib (ps.flatMap tP++kTk tMain :: r)=false/\skB (ps.flatMap tP++kTk tMain :: r) tUse=false:=by
 cases ps with
 | nil=>
   refine ⟨?_,by show skB (kTk tMain :: r) tUse=false;rw [skK];decide⟩;show zib (pubT false++kTk tMain :: r)=false
   rw [zgo _ _ _ (by decide)];decide
 | cons p ps=>
   rw [List.flatMap_cons,List.append_assoc];exact ⟨(zqc p _).2.1,(zqc p _).2.2⟩
theorem zos {ds:List De} {r:List Tk} (hr:skB r tUse=false):skB (ds.flatMap tD++r) tUse=false:=by
 cases ds with
 | nil=>exact hr
 | cons d ds=>
   rw [List.flatMap_cons,List.append_assoc];unfold tD
   cases d.pub with
   | true=>show skB (kTk tPub :: _) tUse=false;rw [skK];decide
   | false=>
     show skB ((if d.kind=1 then _ else _)++_) tUse=false;split
     . show skB (kTk tConst :: _) tUse=false;rw [skK];decide
     split
     . show skB (kTk tVar :: _) tUse=false;rw [skK];decide
     . show skB (kTk tArray :: _) tUse=false;rw [skK];decide
theorem zgp {α:Type} (g:α->List Tk) (hg:∀ x,0<(g x).length):∀ l:List α,l.length<=(l.flatMap g).length
 | []=>by simp
 | x :: r=>by
   have h1:=hg x;have h2:=zgp g hg r;simp only [List.flatMap_cons,List.length_append,List.length_cons];omega
theorem zqd {m:Mo} (h:moOk m):zc4 (tM m)=some (m,[]):=by
 obtain ⟨name,us,ds,ps,b⟩:=m;obtain ⟨hn,hu,hd,hp,hb⟩:=h;simp only at hn hu hd hp hb;unfold zc4 tM;simp only;rw [if_pos (by rw [skK];rfl)];generalize hT:kTk tMain :: (brT (tSs b)++[kTk tRb])=T
 show (match zc3 (wTk name :: kTk tLb :: (zb8 tUse us++(ds.flatMap tD++(ps.flatMap tP++T)))) with
  | none=>none
  | some (n,l1)=>if skB l1 tLb then (match zcm tUse (l1.tail.length+1) [] l1.tail with
    | none=>none
    | some (us,l2)=>(match zc5 (l2.length+1) [] l2 with
      | none=>none
      | some (ds,l3)=>(match zcz (l3.length+1) [] l3 with
        | none=>none
        | some (ps,l4)=>(match pB l4 with
          | none=>none
          | some (b,l5)=>if skB l5 tRb then some ((⟨n,us,ds,ps,b⟩:Mo),l5.tail) else none)))) else none)=_
 rw [zgm hn]
 show (if skB (kTk tLb :: (zb8 tUse us++(ds.flatMap tD++(ps.flatMap tP++T)))) tLb=true then (match zcm tUse ((zb8 tUse us++(ds.flatMap tD++(ps.flatMap tP++T))).length+1) [] (zb8 tUse us++(ds.flatMap tD++(ps.flatMap tP++T))) with
  | none=>none
  | some (us,l2)=>(match zc5 (l2.length+1) [] l2 with
    | none=>none
    | some (ds,l3)=>(match zcz (l3.length+1) [] l3 with
      | none=>none
      | some (ps,l4)=>(match pB l4 with
        | none=>none
        | some (b,l5)=>if skB l5 tRb then some ((⟨name,us,ds,ps,b⟩:Mo),l5.tail) else none)))) else none)=_
 have l1:=zjp tUse us;have l2:ds.length<=(ds.flatMap tD).length:=zgp tD (fun d=>by unfold tD;split<;>(try split)<;>simp) ds;have l3:ps.length<=(ps.flatMap tP).length:=zgp tP (fun p=>by unfold tP;simp only [List.length_append,List.length_cons];omega) ps
 have hTd:zib (ps.flatMap tP++T)=false/\skB (ps.flatMap tP++T) tUse=false:=by rw [← hT];exact zme ps _
 rw [if_pos (by rw [skK];rfl),zko tUse us hu _ [] _ (by rw [List.length_append];omega) (zos hTd.2)]
 show (match zc5 ((ds.flatMap tD++(ps.flatMap tP++T)).length+1) [] (ds.flatMap tD++(ps.flatMap tP++T)) with
       | none=>none
       | some (ds,l3)=>(match zcz (l3.length+1) [] l3 with
         | none=>none
         | some (ps,l4)=>(match pB l4 with
           | none=>none
           | some (b,l5)=>if skB l5 tRb then some ((⟨name,us,ds,ps,b⟩:Mo),l5.tail) else none)))=_
 rw [zmc ds hd _ [] _ (by rw [List.length_append];omega) hTd.1]
 show (match zcz ((ps.flatMap tP++T).length+1) [] (ps.flatMap tP++T) with
  | none=>none
  | some (ps,l4)=>(match pB l4 with
    | none=>none
    | some (b,l5)=>if skB l5 tRb then some ((⟨name,us,ds,ps,b⟩:Mo),l5.tail) else none))=_
 rw [← hT,zmd ps hp _ [] _ (by rw [List.length_append];omega)]
 show (match pB (brT (tSs b)++[kTk tRb]) with
  | none=>none
  | some (b,l5)=>if skB l5 tRb then some ((⟨name,us,ds,ps,b⟩:Mo),l5.tail) else none)=_
 rw [zvs hb];show (if skB (kTk tRb :: []) tRb=true then _ else _)=_
 rw [if_pos (by rw [skK];rfl)];rfl
end Go.Proofs.YtcekpobmbmnplaaGreatDoor

namespace Go.Proofs.YtcekpobmbmnplaaGreatDoor
set_option maxRecDepth 100000
set_option maxHeartbeats 3200000
open Go.RowKit
theorem zr9 {m:Mo} (h:moOk m):znb (tM m)=some m:=by
 unfold znb;rw [zqd h]
end Go.Proofs.YtcekpobmbmnplaaGreatDoor

namespace Go.Proofs.YtcekpobmbmnplaaGreatDoor
set_option maxRecDepth 100000
open Go.ChangeShapes Go.WideShapes Go.ChangeAt Go.RowKit Go.Deep
section
variable {H:Type} {enc:TypeId × Value->H} {W:World}
end
end Go.Proofs.YtcekpobmbmnplaaGreatDoor

namespace Go.Proofs.YtcekpobmbmnplaaGreatDoor
set_option maxRecDepth 100000
open Go.ChangeShapes Go.WideShapes Go.ChangeAt Go.RowKit Go.Deep
theorem ownTry:ownKnob Tryz.prog.godebug=none:=by kernel_rfl
theorem laidOutTry:laidOutB Tryz.prog=true:=by kernel_rfl
theorem pow10Type:(Tryz.prog.globals[0]?).map (·.type)=some 164:=by kernel_rfl
theorem cellsP:Tryz.prog.cellsOf 164=20:=by kernel_rfl
theorem cellsU:Tryz.prog.cellsOf 157=1:=by kernel_rfl
def laid5:List (String × DataW Unit):=[("math/bits.deBruijn32tab",Rows.laid_math_bits_deBruijn32tab),("math/bits.deBruijn64tab",Rows.laid_math_bits_deBruijn64tab),("internal/strconv.uint64pow10",Rows.laid_internal_strconv_uint64pow10),("unicode/utf8.acceptRanges",Rows.laid_unicode_utf8_acceptRanges),("unicode/utf8.first",Rows.laid_unicode_utf8_first)]
theorem tab_of_laid {W:World} (h:laidMet Tryz.prog laid5 W):Tab W:=by
 obtain ⟨ps,⟨_,_,_,_,_,q1,_,_,_,_,hr1,_⟩,_⟩:=h;obtain ⟨_,_,_,_,_,q2,_,_,_,_,hr2,_⟩:=hr1;obtain ⟨g',t',cs,fuel,p,q,hg',ht',hvar,hd,_,_⟩:=hr2;obtain rfl:=Option.some.inj (ziq.symm.trans hg');obtain rfl:=Option.some.inj (pow10Type.symm.trans ht')
 have hT:Lib.TabIs Tryz.prog W "internal/strconv.uint64pow10" .u64 Lib.pow10Tab:=by
  unfold Lib.TabIs;rw [hvar,← Lib.cells_of_tab Tryz.underlying164 Tryz.underlying157 cellsU cellsP hd]
 exact ⟨hT,World.block_lt_of_cell? W _ (hT.cell ziq 0 (by decide))⟩
noncomputable def laidHeap (h:Array Obj):Array Obj:=
 (((((h.modify 0 fun
     | .cells _ t frozen=>.cells #[.int .u64 1,.int .u64 10,.int .u64 100,.int .u64 1000,.int .u64 10000,.int .u64 100000,.int .u64 1000000,.int .u64 10000000,.int .u64 100000000,.int .u64 1000000000,.int .u64 10000000000,.int .u64 100000000000,.int .u64 1000000000000,.int .u64 10000000000000,.int .u64 100000000000000,.int .u64 1000000000000000,.int .u64 10000000000000000,.int .u64 100000000000000000,.int .u64 1000000000000000000,.int .u64 10000000000000000000] t frozen
     | o=>o).modify 2 fun
     | .cells _ t frozen=>.cells #[.int .u8 0,.int .u8 1,.int .u8 28,.int .u8 2,.int .u8 29,.int .u8 14,.int .u8 24,.int .u8 3,.int .u8 30,.int .u8 22,.int .u8 20,.int .u8 15,.int .u8 25,.int .u8 17,.int .u8 4,.int .u8 8,.int .u8 31,.int .u8 27,.int .u8 13,.int .u8 23,.int .u8 21,.int .u8 19,.int .u8 16,.int .u8 7,.int .u8 26,.int .u8 12,.int .u8 18,.int .u8 6,.int .u8 11,.int .u8 5,.int .u8 10,.int .u8 9] t frozen
     | o=>o).modify 3 fun
     | .cells _ t frozen=>.cells #[.int .u8 0,.int .u8 1,.int .u8 56,.int .u8 2,.int .u8 57,.int .u8 49,.int .u8 28,.int .u8 3,.int .u8 61,.int .u8 58,.int .u8 42,.int .u8 50,.int .u8 38,.int .u8 29,.int .u8 17,.int .u8 4,.int .u8 62,.int .u8 47,.int .u8 59,.int .u8 36,.int .u8 45,.int .u8 43,.int .u8 51,.int .u8 22,.int .u8 53,.int .u8 39,.int .u8 33,.int .u8 30,.int .u8 24,.int .u8 18,.int .u8 12,.int .u8 5,.int .u8 63,.int .u8 55,.int .u8 48,.int .u8 27,.int .u8 60,.int .u8 41,.int .u8 37,.int .u8 16,.int .u8 46,.int .u8 35,.int .u8 44,.int .u8 21,.int .u8 52,.int .u8 32,.int .u8 23,.int .u8 11,.int .u8 54,.int .u8 26,.int .u8 40,.int .u8 15,.int .u8 34,.int .u8 20,.int .u8 31,.int .u8 10,.int .u8 25,.int .u8 14,.int .u8 19,.int .u8 9,.int .u8 13,.int .u8 8,.int .u8 7,.int .u8 6] t frozen
     | o=>o).modify 4 fun
     | .cells _ t frozen=>.cells #[.int .u8 240,.int .u8 240,.int .u8 240,.int .u8 240,.int .u8 240,.int .u8 240,.int .u8 240,.int .u8 240,.int .u8 240,.int .u8 240,.int .u8 240,.int .u8 240,.int .u8 240,.int .u8 240,.int .u8 240,.int .u8 240,.int .u8 240,.int .u8 240,.int .u8 240,.int .u8 240,.int .u8 240,.int .u8 240,.int .u8 240,.int .u8 240,.int .u8 240,.int .u8 240,.int .u8 240,.int .u8 240,.int .u8 240,.int .u8 240,.int .u8 240,.int .u8 240,.int .u8 240,.int .u8 240,.int .u8 240,.int .u8 240,.int .u8 240,.int .u8 240,.int .u8 240,.int .u8 240,.int .u8 240,.int .u8 240,.int .u8 240,.int .u8 240,.int .u8 240,.int .u8 240,.int .u8 240,.int .u8 240,.int .u8 240,.int .u8 240,.int .u8 240,.int .u8 240,.int .u8 240,.int .u8 240,.int .u8 240,.int .u8 240,.int .u8 240,.int .u8 240,.int .u8 240,.int .u8 240,.int .u8 240,.int .u8 240,.int .u8 240,.int .u8 240,.int .u8 240,.int .u8 240,.int .u8 240,.int .u8 240,.int .u8 240,.int .u8 240,.int .u8 240,.int .u8 240,.int .u8 240,.int .u8 240,.int .u8 240,.int .u8 240,.int .u8 240,.int .u8 240,.int .u8 240,.int .u8 240,.int .u8 240,.int .u8 240,.int .u8 240,.int .u8 240,.int .u8 240,.int .u8 240,.int .u8 240,.int .u8 240,.int .u8 240,.int .u8 240,.int .u8 240,.int .u8 240,.int .u8 240,.int .u8 240,.int .u8 240,.int .u8 240,.int .u8 240,.int .u8 240,.int .u8 240,.int .u8 240,.int .u8 240,.int .u8 240,.int .u8 240,.int .u8 240,.int .u8 240,.int .u8 240,.int .u8 240,.int .u8 240,.int .u8 240,.int .u8 240,.int .u8 240,.int .u8 240,.int .u8 240,.int .u8 240,.int .u8 240,.int .u8 240,.int .u8 240,.int .u8 240,.int .u8 240,.int .u8 240,.int .u8 240,.int .u8 240,.int .u8 240,.int .u8 240,.int .u8 240,.int .u8 240,.int .u8 240,.int .u8 240,.int .u8 241,.int .u8 241,.int .u8 241,.int .u8 241,.int .u8 241,.int .u8 241,.int .u8 241,.int .u8 241,.int .u8 241,.int .u8 241,.int .u8 241,.int .u8 241,.int .u8 241,.int .u8 241,.int .u8 241,.int .u8 241,.int .u8 241,.int .u8 241,.int .u8 241,.int .u8 241,.int .u8 241,.int .u8 241,.int .u8 241,.int .u8 241,.int .u8 241,.int .u8 241,.int .u8 241,.int .u8 241,.int .u8 241,.int .u8 241,.int .u8 241,.int .u8 241,.int .u8 241,.int .u8 241,.int .u8 241,.int .u8 241,.int .u8 241,.int .u8 241,.int .u8 241,.int .u8 241,.int .u8 241,.int .u8 241,.int .u8 241,.int .u8 241,.int .u8 241,.int .u8 241,.int .u8 241,.int .u8 241,.int .u8 241,.int .u8 241,.int .u8 241,.int .u8 241,.int .u8 241,.int .u8 241,.int .u8 241,.int .u8 241,.int .u8 241,.int .u8 241,.int .u8 241,.int .u8 241,.int .u8 241,.int .u8 241,.int .u8 241,.int .u8 241,.int .u8 241,.int .u8 241,.int .u8 2,.int .u8 2,.int .u8 2,.int .u8 2,.int .u8 2,.int .u8 2,.int .u8 2,.int .u8 2,.int .u8 2,.int .u8 2,.int .u8 2,.int .u8 2,.int .u8 2,.int .u8 2,.int .u8 2,.int .u8 2,.int .u8 2,.int .u8 2,.int .u8 2,.int .u8 2,.int .u8 2,.int .u8 2,.int .u8 2,.int .u8 2,.int .u8 2,.int .u8 2,.int .u8 2,.int .u8 2,.int .u8 2,.int .u8 2,.int .u8 19,.int .u8 3,.int .u8 3,.int .u8 3,.int .u8 3,.int .u8 3,.int .u8 3,.int .u8 3,.int .u8 3,.int .u8 3,.int .u8 3,.int .u8 3,.int .u8 3,.int .u8 35,.int .u8 3,.int .u8 3,.int .u8 52,.int .u8 4,.int .u8 4,.int .u8 4,.int .u8 68,.int .u8 241,.int .u8 241,.int .u8 241,.int .u8 241,.int .u8 241,.int .u8 241,.int .u8 241,.int .u8 241,.int .u8 241,.int .u8 241,.int .u8 241] t frozen
     | o=>o).modify 5 fun
     | .cells _ t frozen=>.cells #[.int .u8 128,.int .u8 191,.int .u8 160,.int .u8 191,.int .u8 128,.int .u8 159,.int .u8 144,.int .u8 191,.int .u8 128,.int .u8 143,.int .u8 0,.int .u8 0,.int .u8 0,.int .u8 0,.int .u8 0,.int .u8 0,.int .u8 0,.int .u8 0,.int .u8 0,.int .u8 0,.int .u8 0,.int .u8 0,.int .u8 0,.int .u8 0,.int .u8 0,.int .u8 0,.int .u8 0,.int .u8 0,.int .u8 0,.int .u8 0,.int .u8 0,.int .u8 0] t frozen
     | o=>o)
noncomputable def laidWorld (os:Os):World:=
 { World.holding Tryz.prog os ⟨#[],#[],[]⟩ with heap:=laidHeap (World.holding Tryz.prog os ⟨#[],#[],[]⟩).heap }
end Go.Proofs.YtcekpobmbmnplaaGreatDoor

namespace Go.Proofs.YtcekpobmbmnplaaGreatDoor
open Go.RowKit
def ex0:Ex:=.mk 0 0 ⟨#[]⟩ ⟨#[]⟩ []
def eTk (l:List Tk) (t:ByteArray):List Tk:=if skB l t then l.tail else l
def eName (l:List Tk):ByteArray × List Tk:=if (hd l).kind=1 then ((hd l).text,l.tail) else (⟨#[]⟩,l)
def eNum (l:List Tk):Int × List Tk:=if (hd l).kind=2 then ((hd l).n,l.tail) else (0,l)
def eRef (l:List Tk):(ByteArray × ByteArray) × List Tk:=
 if skB (eName l).2 tDot then (((eName l).1,(eName (eName l).2.tail).1),(eName (eName l).2.tail).2) else ((⟨#[]⟩,(eName l).1),(eName l).2)
def eOp (l:List Tk):Int × List Tk:=match zm4 l with | some k=>(7+k,l.tail) | none=>(0,l)
def zhi (E:List Tk->Ex × List Tk):Nat->List Ex->List Tk->List Ex × List Tk
 | 0,acc,l=>(acc,eTk l tRp)
 | j+1,acc,l=>if skB (E l).2 tCom then zhi E j (acc++[(E l).1]) (E l).2.tail else (acc++[(E l).1],eTk (E l).2 tRp)
def eList (E:List Tk->Ex × List Tk) (l:List Tk):List Ex × List Tk:=if skB l tRp then ([],l.tail) else zhi E 4 [] l
def eExpr:Nat->List Tk->Ex × List Tk
 | 0,l=>(ex0,l)
 | k+1,l=>
   if l.length=0 then (ex0,l)
   else if (hd l).kind=2 then (.mk 1 (hd l).n ⟨#[]⟩ ⟨#[]⟩ [],l.tail)
   else if skB l tIn then (.mk 2 0 ⟨#[]⟩ ⟨#[]⟩ [],l.tail)
   else if skB l tNot then (.mk 6 0 ⟨#[]⟩ ⟨#[]⟩ [(eExpr k l.tail).1],(eExpr k l.tail).2)
   else if skB l tLp then
    (.mk (eOp (eExpr k l.tail).2).1 0 ⟨#[]⟩ ⟨#[]⟩ [(eExpr k l.tail).1,(eExpr k (eOp (eExpr k l.tail).2).2).1],eTk (eExpr k (eOp (eExpr k l.tail).2).2).2 tRp)
   else if skB (eRef l).2 tLs then (.mk 4 0 (eRef l).1.1 (eRef l).1.2 [(eExpr k (eRef l).2.tail).1],eTk (eExpr k (eRef l).2.tail).2 tRs)
   else if skB (eRef l).2 tLp then (.mk 5 0 (eRef l).1.1 (eRef l).1.2 (eList (eExpr k) (eRef l).2.tail).1,(eList (eExpr k) (eRef l).2.tail).2)
   else (.mk 3 0 (eRef l).1.1 (eRef l).1.2 [],(eRef l).2)
theorem zk7 (t:ByteArray) (l:List Tk):eTk (kTk t :: l) t=l:=by
 unfold eTk
 rw [if_pos (by rw [skK];exact beq_self_eq_true _)];rfl
theorem zhg (n:ByteArray) (l:List Tk):eName (wTk n :: l)=(n,l):=rfl
theorem zhy {m n:ByteArray} (hm:m.size=0\/zae m=true) (r:List Tk) (hr:skB r tDot=false):eRef (refT m n++r)=((m,n),r):=by
 unfold refT;split
 . rename_i h0
   obtain rfl:=zjo h0;show eRef (wTk n :: r)=_;unfold eRef;rw [zhg,if_neg (by rw [hr];decide)]
 . show eRef (wTk m :: kTk tDot :: wTk n :: r)=_
   unfold eRef;rw [zhg,if_pos (by rw [skK];rfl)]
   rfl
theorem zlm (E:List Tk->Ex × List Tk):∀ (xs:List Ex) (x:Ex) (j:Nat) (acc:List Ex) (r:List Tk),(∀ y ∈ x :: xs,∀ r,Fol r->E (tE y++r)=(y,r))->xs.length<j->
 zhi E j acc (tE x++(zet xs++kTk tRp :: r))=(acc++x :: xs,r)
 | [],x,j,acc,r,hE,hj=>by
   obtain ⟨j,rfl⟩:∃ g,j=g+1:=⟨j - 1,by omega⟩
   show zhi E (j+1) acc (tE x++kTk tRp :: r)=_;rw [zhi,hE x (by simp) _ (zk2 (by decide)),if_neg (by show ¬ skB (kTk tRp :: r) tCom=true;rw [skK];decide)];show (acc++[x],eTk (kTk tRp :: r) tRp)=_;rw [zk7]
 | y :: ys,x,j,acc,r,hE,hj=>by
   obtain ⟨j,rfl⟩:∃ g,j=g+1:=⟨j - 1,by omega⟩
   simp only [List.length_cons] at hj;rw [show zet (y :: ys)++kTk tRp :: r=kTk tCom :: (tE y++(zet ys++kTk tRp :: r)) from by simp [zet]];rw [zhi,hE x (by simp) _ (zk2 (by decide)),if_pos (by show skB (kTk tCom :: _) tCom=true;rw [skK];rfl)];show zhi E j (acc++[x]) (tE y++(zet ys++kTk tRp :: r))=_;rw [zlm E ys y j (acc++[x]) r (fun z hz=>hE z (by simp at hz ⊢;exact Or.inr hz)) (by omega)];simp
theorem zln (E:List Tk->Ex × List Tk) {xs:List Ex} (ho:∀ x ∈ xs,exOk x) (h3:xs.length<=3) (hE:∀ y ∈ xs,∀ r,Fol r->E (tE y++r)=(y,r)) (r:List Tk):eList E (commas (tEs xs)++kTk tRp :: r)=(xs,r):=by
 unfold eList
 cases xs with
 | nil=>
   show (if skB (kTk tRp :: r) tRp=true then _ else _)=_
   rw [if_pos (by rw [skK];rfl)];rfl
 | cons x xs=>
   simp only [List.length_cons] at h3;rw [zhp,List.append_assoc,if_neg (by rw [zrq (ho x (by simp)) _ (by decide)];decide),zlm E xs x 4 [] r hE (by omega)]
   rfl
theorem zye:∀ (k:Nat) (l:List Ex),zao k l=false->(∀ x ∈ l,exOk x)->∀ x ∈ l,∀ (j:Nat) (r:List Tk),k<=j->Fol r->eExpr j (tE x++r)=(x,r)
 | 0,l,h,_,x,hx,_,_,_,_=>by
   simp [zao] at h
   rw [h] at hx;cases hx
 | k + 1,l,h,ho,x,hx,j,r,hj,hr=>by
   obtain ⟨j,rfl⟩:∃ g,j=g+1:=⟨j - 1,by omega⟩
   simp only [zao,Bool.or_eq_false_iff] at h
   have a2:zao k x.args=false:=by
    have:=h.2;rw [List.any_eq_false] at this;simpa using this x hx
   have hox:=ho x hx;have hp:=zrp hox
   have hne:¬ (tE x++r).length=0:=by rw [List.length_append];omega
   have a3:=(zik k x.args a2).2
   cases hox with
   | @mk op n m nm args h1 h2 h3 h4 h5=>
     have ih:∀ y ∈ args,∀ r,Fol r->eExpr j (tE y++r)=(y,r):=fun y hy r hr=>zye k args a2 h5 y hy j r (by omega) hr
     clear hne hp;simp only [tE]
     rcases zkl h1 with rfl | rfl | rfl | rfl | rfl | rfl | hop
     . obtain ⟨rfl,rfl⟩:=zbh (sh:=exS 1) rfl h2
       obtain rfl:=List.eq_nil_of_length_eq_zero (zay (h:=exS 1) (n:=0) h4 rfl rfl);show eExpr (j+1) (nTk n :: r)=_
       rw [eExpr,if_neg (by simp),if_pos (by rfl)];rfl
     . obtain ⟨rfl,rfl⟩:=zbh (sh:=exS 2) rfl h2
       obtain rfl:=List.eq_nil_of_length_eq_zero (zay (h:=exS 2) (n:=0) h4 rfl rfl);obtain rfl:n=0:=of_decide_eq_true h3;show eExpr (j+1) (kTk tIn :: r)=_
       rw [eExpr,if_neg (by simp),if_neg (by show ¬ (kTk tIn).kind=2;decide),if_pos (by rw [skK];rfl)];rfl
     . obtain ⟨a,b⟩:=zbs rfl h2
       obtain rfl:=List.eq_nil_of_length_eq_zero (zay (h:=exS 3) (n:=0) h4 rfl rfl);obtain rfl:n=0:=of_decide_eq_true h3;rw [show exTok 3 0 m nm (tEs [])++r=refT m nm++r from by simp [exTok]];have hR:=zhy (n:=nm) b r hr.1;obtain ⟨c,l',e,hc⟩:=zgn a b r;rw [e] at hR ⊢
       rw [eExpr,if_neg (by simp),if_neg (by show ¬ (1:Int)=2;decide),if_neg (by rw [skW hc _ _ (by decide)];decide),if_neg (by rw [skW hc _ _ (by decide)];decide),if_neg (by rw [skW hc _ _ (by decide)];decide),hR,
        if_neg (by rw [hr.2.1];decide),if_neg (by rw [hr.2.2];decide)]
     . obtain ⟨a,b⟩:=zbs rfl h2
       obtain ⟨y,rfl⟩:=zld (zay (h:=exS 4) (n:=1) h4 rfl rfl);obtain rfl:n=0:=of_decide_eq_true h3;rw [show exTok 4 0 m nm (tEs [y])++r=refT m nm++(kTk tLs :: (tE y++kTk tRs :: r)) from by simp [exTok,tEs]];have hR:=zhy (n:=nm) b (kTk tLs :: (tE y++kTk tRs :: r)) (by rw [skK];decide);obtain ⟨c,l',e,hc⟩:=zgn a b (kTk tLs :: (tE y++kTk tRs :: r));rw [e] at hR ⊢
       rw [eExpr,if_neg (by simp),if_neg (by show ¬ (1:Int)=2;decide),if_neg (by rw [skW hc _ _ (by decide)];decide),if_neg (by rw [skW hc _ _ (by decide)];decide),if_neg (by rw [skW hc _ _ (by decide)];decide),hR,
        if_pos (by rw [skK];rfl)]
       show (Ex.mk 4 0 m nm [(eExpr j (tE y++kTk tRs :: r)).1],eTk (eExpr j (tE y++kTk tRs :: r)).2 tRs)=_;rw [ih y (by simp) _ (zk2 (by decide))];show (Ex.mk 4 0 m nm [y],eTk (kTk tRs :: r) tRs)=_;rw [zk7]
     . obtain ⟨a,b⟩:=zbs rfl h2
       obtain rfl:n=0:=of_decide_eq_true h3;rw [show exTok 5 0 m nm (tEs args)++r=refT m nm++(kTk tLp :: (commas (tEs args)++kTk tRp :: r)) from by simp [exTok]];have hR:=zhy (n:=nm) b (kTk tLp :: (commas (tEs args)++kTk tRp :: r)) (by rw [skK];decide);obtain ⟨c,l',e,hc⟩:=zgn a b (kTk tLp :: (commas (tEs args)++kTk tRp :: r));rw [e] at hR ⊢
       rw [eExpr,if_neg (by simp),if_neg (by show ¬ (1:Int)=2;decide),if_neg (by rw [skW hc _ _ (by decide)];decide),if_neg (by rw [skW hc _ _ (by decide)];decide),if_neg (by rw [skW hc _ _ (by decide)];decide),hR,
        if_neg (by rw [skK];decide),if_pos (by rw [skK];rfl)]
       show (Ex.mk 5 0 m nm (eList (eExpr j) (commas (tEs args)++kTk tRp :: r)).1,(eList (eExpr j) (commas (tEs args)++kTk tRp :: r)).2)=_;rw [zln (eExpr j) h5 a3 ih r]
     . obtain ⟨rfl,rfl⟩:=zbh (sh:=exS 6) rfl h2
       obtain ⟨y,rfl⟩:=zld (zay (h:=exS 6) (n:=1) h4 rfl rfl);obtain rfl:n=0:=of_decide_eq_true h3;rw [show exTok 6 0 ⟨#[]⟩ ⟨#[]⟩ (tEs [y])++r=kTk tNot :: (tE y++r) from by simp [exTok,tEs]];rw [eExpr,if_neg (by simp),if_neg (by show ¬ (kTk tNot).kind=2;decide),if_neg (by rw [skK];decide),if_pos (by rw [skK];rfl)];show (Ex.mk 6 0 ⟨#[]⟩ ⟨#[]⟩ [(eExpr j (tE y++r)).1],(eExpr j (tE y++r)).2)=_;rw [ih y (by simp) r hr]
     . have hS:exS op=⟨false,false,2,2,false,false⟩:=by
        unfold exS zhd
        rw [if_neg (by omega),if_neg (by omega),if_neg (by omega),if_neg (by omega),if_neg (by omega),if_neg (by omega),if_pos hop];rfl
       rw [hS] at h2 h3 h4;obtain ⟨rfl,rfl⟩:=zbh rfl h2;obtain ⟨y,z,rfl⟩:=z0r (zay (n:=2) h4 rfl rfl);obtain rfl:n=0:=of_decide_eq_true h3
       have e:exTok op 0 ⟨#[]⟩ ⟨#[]⟩ (tEs [y,z])++r=kTk tLp :: (tE y++opTk op :: (tE z++kTk tRp :: r)):=by
        unfold exTok;rw [if_neg (by omega),if_neg (by omega),if_neg (by omega),if_neg (by omega),if_neg (by omega),if_neg (by omega)];simp [tEs]
       rw [e,eExpr,if_neg (by simp),if_neg (by show ¬ (kTk tLp).kind=2;decide),if_neg (by rw [skK];decide),if_neg (by rw [skK];decide),if_pos (by rw [skK];rfl)];obtain ⟨o1,o2⟩:=zro hop (tE z++kTk tRp :: r)
       have hO:eOp (opTk op :: (tE z++kTk tRp :: r))=(op,tE z++kTk tRp :: r):=by
        unfold eOp;rw [o1];show ((7+((op - 7).toNat:Int)),tE z++kTk tRp :: r)=_;rw [show (7+((op - 7).toNat:Int))=op from by omega]
       rw [List.tail_cons,ih y (by simp) _ o2];simp only [hO];rw [ih z (by simp) _ (zk2 (by decide))];show (Ex.mk op 0 ⟨#[]⟩ ⟨#[]⟩ [y,z],eTk (kTk tRp :: r) tRp)=_;rw [zk7]
end Go.Proofs.YtcekpobmbmnplaaGreatDoor
