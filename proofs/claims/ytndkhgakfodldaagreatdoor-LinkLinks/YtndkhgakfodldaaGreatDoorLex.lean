import Derived.Test.YtndkhgakfodldaaGreatDoorStep
import Derived.Test.YtndkhgakfodldaaGreatDoorPj
set_option maxRecDepth 100000
set_option maxHeartbeats 400000
namespace Go.Proofs.YtndkhgakfodldaaGreatDoor
open Go.RowKit
variable {a b l c:List Tk} {s:ByteArray} {t:Tk}
theorem DA (s:ByteArray) (w:World) (Z:s.size<=maxLen) :
 ew 114 #[.string s] w fun e r=>∃ a I,e = .returned (.tuple #[.slice a (i7 s).length I,em (i8 s)])/\jD r a (i7 s)/\et w r:=by
 unfold maxLen at Z
 by_cases b:4096<s.size
 . have aH:Hid (i7 s=[]/\i8 s=2):=Ds b
   go_enter Tryz.func114,Tryz.ntmps114;go_wp2_with fail;go_ret2;exact ⟨none,0,by rw [aH.out.1,aH.out.2];rfl,by rw [aH.out.1];exact Or.inl rfl,Below.refl _ _⟩
 . have ao:Hid (ew 157 #[.string s] w fun e r=>∃ a I,e = .returned (.tuple #[.slice a (i7 s).length I,em (i8 s)])/\jD r a (i7 s)/\et w r):=GK s w (by omega)
   generalize i7 s=d at *;generalize i8 s=n at *;go_enter Tryz.func114,Tryz.ntmps114;go_wp2_with fail;refine ao.mono ?_;rintro e w2 ⟨a,I,rfl,u,F⟩;have P:Hid (jD w2 a d):=u;clear u ao;go_wp2_with fail;go_ret2;exact ⟨a,I,rfl,P,F⟩
def sd:Nat->ByteArray->Nat->Option (List Tk)
 | 0,s,a=>if a<s.size then none else some []
 | f + 1,s,a=>
   if h:a<s.size then
    if k8 s[a] then sd f s (a+Lx.pieceN s a)
    else match hF (s.extract a (a+Lx.pieceN s a)) with
     | none=>none
     | some t=>(sd f s (a+Lx.pieceN s a)).map (t :: ·)
   else some []
theorem zo:∀ (f:Nat) (s:ByteArray) (a:Nat),s.size - a<=f->sd f s a=hP s a
 | 0,s,a,h=>by rw [vQ s a (by omega)];unfold sd;rw [if_neg (by omega)]
 | f+1,s,a,h=>by
   have az:=Lx.zg4 s a;have aH:=zo f s (a+Lx.pieceN s a) (by omega);rw [hP,sd,aH]
   cases hF (s.extract a (a+Lx.pieceN s a))<;>rfl
def n0 (l:L8):Nat:=if Lx.z7s l=0 then 1 else Lx.z7s l
theorem zq (l:L8):0<n0 l:=by unfold n0;split<;>omega
def mh:L8->Option (List Tk)
 | []=>some []
 | c :: l=>
   if k8 c then mh ((c :: l).drop (n0 (c :: l)))
   else match hF (strOf ((c :: l).take (n0 (c :: l)))) with
    | none=>none
    | some t=>(mh ((c :: l).drop (n0 (c :: l)))).map (t :: ·)
termination_by l=>l.length
decreasing_by
 all_goals have:=zq (c :: l);simp only [nM,iH];omega
theorem DB (s:ByteArray) (a n:Nat):s.extract a (a+n)=strOf ((s.data.toList.drop a).take n):=by
 rw [← Du,strOf_back]
theorem DC:∀ (n:Nat) (s:ByteArray) (a:Nat),s.size - a=n->hP s a=mh (s.data.toList.drop a):=by
 intro n
 induction n using Nat.strongRecOn with
 | _ n aH=>
   intro s a U
   by_cases h:a<s.size
   . have ez:=Dv s a h
     have az:Lx.pieceN s a=n0 (s.data.toList.drop a):=rfl;have i:=Lx.zg4 s a;have b:=aH (s.size - (a+Lx.pieceN s a)) (by omega) s (a+Lx.pieceN s a) rfl
     have cG:s.data.toList.drop (a+Lx.pieceN s a)=(s.data.toList.drop a).drop (Lx.pieceN s a):=by rw [List.drop_drop]
     cases F:k8 s[a] with
     | true=>
       rw [zj s a h F,b,cG,az,ez,mh,if_pos F]
     | false=>
       have ah:=DB s a (Lx.pieceN s a)
       cases aj:hF (s.extract a (a+Lx.pieceN s a)) with
       | none=>
         rw [zk s a h F aj];rw [ah,az,ez] at aj;rw [ez,mh,if_neg (by simp [F]),aj]
       | some t=>
         rw [zl s a t h F aj,b,cG];rw [ah,az,ez] at aj;rw [az,ez,mh,if_neg (by simp [F]),aj]
   . rw [vQ s a h,tT (by rw [Lx.za0];omega),mh]
theorem DD (s:ByteArray):hP s 0=mh s.data.toList:=by
 have:=DC _ s 0 rfl;rwa [List.drop_zero] at this
theorem DE (h:hF s=some t):iz t=true/\Tk.okB t=true:=by
 unfold hF at h
 split at h
 . rename_i Z
   cases h;exact ⟨rfl,by unfold Tk.okB;simp [Z]⟩
 . split at h
   . rename_i U
     cases h;exact ⟨rfl,by unfold Tk.okB;simp [U]⟩
   . split at h
     . rename_i N
       cases h;refine ⟨rfl,?_⟩
       have a7:Lx.valL s.data.toList<=1099511627775:=by unfold Lx.zhc at N;simp at N;exact N.2
       unfold Tk.okB;rw [iB];simp;omega
     . cases h
theorem DF:∀ (n:Nat) (l:L8) (d:List Tk),l.length=n->mh l=some d->hu d/\d.length<=l.length:=by
 intro n
 induction n using Nat.strongRecOn with
 | _ n aH=>
   intro l d U h
   cases l with
   | nil=>rw [mh] at h;cases h;exact ⟨⟨rfl,rfl⟩,eD _⟩
   | cons c O=>
     have i:=zq (c :: O)
     have aT:((c :: O).drop (n0 (c :: O))).length<n:=by rw [nM];simp at U ⊢;omega
     rw [mh] at h
     split at h
     . obtain ⟨G,J⟩:=aH _ aT _ d rfl h
       exact ⟨G,by omega⟩
     . cases aj:hF (strOf ((c :: O).take (n0 (c :: O)))) with
       | none=>rw [aj] at h;cases h
       | some t=>
         rw [aj] at h
         cases W:mh ((c :: O).drop (n0 (c :: O))) with
         | none=>rw [W] at h;cases h
         | some B=>
           rw [W] at h;cases h;obtain ⟨G,J⟩:=aH _ aT _ B rfl W;obtain ⟨N,aa⟩:=DE aj;refine ⟨⟨?_,?_⟩,?_⟩
           . rw [oz,N,G.1];rfl
           . rw [oz,aa,G.2];rfl
           . simp only [iH] at *;omega
def fK (t:ByteArray):Tk:=⟨if Lx.zbw t.data.toList then 1 else 3,0,t⟩
def iQ (t:ByteArray):Tk:=⟨1,0,t⟩
def qU (n:Int):Tk:=⟨2,n,⟨#[]⟩⟩
theorem DG {l:L8} (h:Lx.zkd l=true):Lx.zbw l=false:=by
 match l,h with
 | [c],h=>
   have q:Lx.signs.contains c=true:=h
   have b:∀ c ∈ Lx.signs,Lx.zbw [c]=false:=by decide
   exact b c (rj.1 q)
theorem hu.of_app (h:hu (a++b)):hu b:=by
 obtain ⟨G,J⟩:=h;rw [lL,fs] at G J;exact ⟨G.2,J.2⟩
theorem hu.head (h:hu (t :: b)):iz t=true/\Tk.okB t=true:=by
 obtain ⟨G,J⟩:=h;rw [oz,fs] at G J;exact ⟨G.1,J.1⟩
theorem hu.of_eq {c:List Tk} (h:hu a) (e:a=b++c):hu c:=by rw [e] at h;exact h.of_app
theorem toList_inj {t:ByteArray} (h:s.toList=t.toList):s=t:=by
 rw [iB,iB] at h;exact w8 (Array.ext' h)
theorem gt {t:ByteArray} (W:hu l) (aj:0<t.size) (h:eF l t=true):l=fK t :: l.tail:=by
 cases l with
 | nil=>exact absurd rfl (xt aj h)
 | cons q O=>
   obtain ⟨N,aa⟩:=W.head;obtain ⟨k,n,s⟩:=q;have Z:s=t:=toList_inj (beq_iff_eq.1 h);subst Z;show Tk.mk k n s :: O=fK s :: O
   have aV:s.toList.isEmpty=false:=by
    cases ah:s.toList.isEmpty with
    | false=>rfl
    | true=>
      rw [iB] at ah;have G:=Lx.za0 s;rw [List.isEmpty_iff.1 ah] at G;simp at G;omega
   unfold iz at N;simp only [fs,decide_eq_true_eq] at N;unfold Tk.okB at aa
   have a:k=1\/k=2\/k=3:=by omega
   rcases a with rfl | rfl | rfl
   . simp at aa
     unfold fK
     rw [aa.1,aa.2];rfl
   . simp [aV] at aa
   . simp at aa
     unfold fK
     rw [aa.1,DG aa.2];rfl
theorem DH (s:ByteArray):oF s=pq s:=by
 unfold oF pq;rw [iB];show xr.any _=kept.contains _;rw [ow,List.any_eq_true,rj]
 constructor
 . rintro ⟨q,Q,h⟩
   rw [beq_iff_eq.1 h];exact Q
 . intro h
   exact ⟨_,h,beq_self_eq_true _⟩
theorem nF {a:ByteArray} (W:hu l) (h:hS l=some (a,c)):l=iQ a :: c/\nameOk a=true:=by
 unfold hS at h
 split at h
 . rename_i N
   obtain ⟨rfl,rfl⟩:=fD (fe h);simp only [fs,beq_iff_eq,tX] at N
   cases l with
   | nil=>exact absurd N.1 (by decide)
   | cons q O=>
     obtain ⟨_,aa⟩:=W.head;obtain ⟨k,n,s⟩:=q;have aw:k=1:=N.1;have aE:oF s=false:=N.2;subst aw;unfold Tk.okB at aa;simp at aa;have b4:n=0:=aa.1;subst b4;refine ⟨rfl,?_⟩;show nameOk s=true;unfold nameOk
     rw [← DH,aE,aa.2];rfl
 . cases h
theorem vS {a:Int} (W:hu l) (h:pNum l=some (a,c)):l=qU a :: c/\0<=a/\a<=1099511627775:=by
 unfold pNum at h
 split at h
 . rename_i N
   obtain ⟨rfl,rfl⟩:=fD (fe h)
   cases l with
   | nil=>exact absurd N (by decide)
   | cons q O=>
     obtain ⟨_,aa⟩:=W.head;obtain ⟨k,n,s⟩:=q;have aw:k=2:=N;subst aw;unfold Tk.okB at aa;simp at aa
     have aE:s=⟨#[]⟩:=by
      apply toList_inj
      rw [aa.1,iB]
     subst aE;exact ⟨rfl,aa.2⟩
 . cases h
def o7 (m n:ByteArray):List Tk:=if m.size=0 then [iQ n] else [iQ m,fK qA,iQ n]
theorem DI (h:nameOk s=true):0<s.size:=by
 rcases tV s.size with a3 | a3
 . exfalso
   have:s.data.toList=[]:=ii (by rw [Lx.za0];exact a3);unfold nameOk at h;rw [this] at h;simp [Lx.zbw,Lx.zpd] at h
 . exact a3
theorem zr {m n:ByteArray} (W:hu l) (h:mB l=some ((m,n),c)):l=o7 m n++c/\nameOk n=true/\(m.size=0\/nameOk m=true):=by
 unfold mB at h
 split at h
 . cases h
 rename_i a j G
 obtain ⟨aw,L⟩:=nF W G;have b2:hu j:=W.of_eq (b:=[iQ a]) aw
 split at h
 . rename_i Z
   have aE:=gt b2 (by decide) Z
   split at h
   . cases h
   rename_i b t J
   obtain ⟨b4,f⟩:=nF (b2.of_eq (b:=[fK qA]) aE) J;obtain ⟨S,rfl⟩:=fD (fe h);obtain ⟨rfl,rfl⟩:=fD S;refine ⟨?_,f,Or.inr L⟩;unfold o7
   rw [if_neg (by have:=DI L;omega),aw,aE,show j.tail=iQ b :: t from b4];rfl
 . obtain ⟨S,rfl⟩:=fD (fe h)
   obtain ⟨rfl,rfl⟩:=fD S;exact ⟨aw,L,Or.inl rfl⟩
def ty (p:Int):Tk:=fK (jH.getD (p - 7).toNat ⟨#[]⟩)
def j5:List (List Tk)->List Tk
 | []=>[]
 | [q]=>q
 | q :: o :: O=>q++fK oE :: j5 (o :: O)
def n4 (p n:Int) (m x:ByteArray) (ae:List (List Tk)):List Tk:=
 if p=1 then [qU n] else if p=2 then [fK sE] else if p=3 then o7 m x
 else if p=4 then o7 m x++fK kT :: (ae.getD 0 []++[fK kD])
 else if p=5 then o7 m x++fK iU :: (j5 ae++[fK ib])
 else if p=6 then fK sF :: ae.getD 0 []
 else fK iU :: (ae.getD 0 []++ty p :: (ae.getD 1 []++[fK ib]))
mutual
def gu:fg->List Tk
 | .mk p n m x d=>n4 p n m x (hd d)
def hd:List fg->List (List Tk)
 | []=>[]
 | q :: O=>gu q :: hd O
end
theorem zt:∀ (a b:List fg),hd (a++b)=hd a++hd b
 | [],b=>by simp [hd]
 | q :: O,b=>by simp [hd,zt O b]
theorem zu:∀ (a:List fg),(hd a).length=a.length
 | []=>by simp [hd]
 | q :: O=>by simp [hd,zu O]
theorem vT:∀ (a:List (List Tk)) (q:List Tk),a≠[]->j5 (a++[q])=j5 a++fK oE :: q
 | [],_,h=>absurd rfl h
 | [o],q,_=>by simp [j5]
 | o :: z :: O,q,_=>by
   have:=vT (z :: O) q (by simp);show o++fK oE :: j5 ((z :: O)++[q])=(o++fK oE :: j5 (z :: O))++fK oE :: q
   rw [this];simp
theorem hQ {n:Int} (a3 : -9223372036854775808<=n) (G:n<=9223372036854775807):(Lit.int .i64 n).wf=true:=by
 have aw:IntKind.i64.min = -9223372036854775808:=by decide
 have aE:IntKind.i64.max=9223372036854775807:=by decide
 simp [Lit.wf,aw,aE];omega
theorem se:∀ (l:List fg),(ft l).length=5*l.length
 | []=>by simp [ft]
 | q :: O=>by
   have:=q.ds_len
   simp [ft,se O,this];omega
theorem n5:∀ (l:List St),(fw l).length=6*l.length
 | []=>by simp [fw]
 | q :: O=>by
   have:=q.ds_len
   simp [fw,n5 O,this];omega
theorem p6 {p n:Int} {m x:ByteArray} {d:List fg} (G:(Lit.int .i64 p).wf=true) (J:(Lit.int .i64 n).wf=true) (S:d.length<=10000) (a6:D.fines (ft d)):D.fines (fg.mk p n m x d).ds:=by
 unfold fg.ds;simp only [D.fines,D.fine];refine ⟨G,J,trivial,trivial,⟨?_,?_,a6⟩,trivial⟩
 . rw [se];omega
 . rw [se];omega
theorem n6:D.fines []:=by unfold D.fines;trivial
theorem nG {x:fg} (h:D.fines x.ds):D.fines (ft [x]):=by rw [uk];exact h
theorem zv {x y:fg} (h:D.fines x.ds) (k:D.fines y.ds):D.fines (ft [x,y]):=by
 show D.fines (x.ds++(y.ds++[]));exact D.fines_append h (D.fines_append k n6)
theorem DJ {l:List Tk} {k:Nat} (W:hu l) (h:mZ l=some k):l=ty (7+k) :: l.tail/\k<9:=by
 unfold mZ at h;obtain ⟨N,J,_⟩:=rc.1 h
 have az:0<(jH[k]).size:=by
  have:∀ q ∈ jH,0<q.size:=by decide
  exact this _ (fO N)
 refine ⟨?_,N⟩;have e:=gt W az J;unfold ty;rw [show ((7:Int)+(k:Int) - 7).toNat=k from by omega,lJ,gb N];exact e
def hG (l:List Tk):Prop:=hu l/\l.length<=4096
theorem hG.of_eq {a b c:List Tk} (h:hG a) (e:a=b++c):hG c:=⟨h.1.of_eq e,by have:=h.2;rw [e,gn] at this;omega⟩
theorem hG.tl {a c:List Tk} {t:Tk} (h:hG a) (e:a=t :: c):hG c:=h.of_eq (b:=[t]) e
mutual
theorem p7:∀ (f:Nat) (l c:List Tk) (q:fg),gz f l=some (q,c)->hG l->l=gu q++c/\D.fines q.ds
 | 0,_,_,_,h,_=>by simp [gz] at h
 | f + 1,l,c,q,h,af=>by
   unfold gz at h
   split at h
   . rename_i N
     obtain ⟨rfl,rfl⟩:=fD (fe h)
     have U:pNum l=some ((ez l).n,l.tail):=by unfold pNum;rw [if_pos N]
     obtain ⟨e,a3,G⟩:=vS af.1 U;exact ⟨by simpa [gu,n4] using e,p6 (hQ (by decide) (by decide)) (hQ (by omega) (by omega)) (by simp) (by unfold ft;exact n6)⟩
   split at h
   . rename_i Z
     obtain ⟨rfl,rfl⟩:=fD (fe h);exact ⟨by simpa [gu,n4] using gt af.1 (by decide) Z,p6 (hQ (by decide) (by decide)) (hQ (by decide) (by decide)) (by simp) (by unfold ft;exact n6)⟩
   split at h
   . rename_i Z
     have e:=gt af.1 (by decide) Z
     split at h
     . cases h
     rename_i o j G
     obtain ⟨rfl,rfl⟩:=fD (fe h);obtain ⟨aw,bk⟩:=p7 f _ _ _ G (af.tl e);refine ⟨?_,p6 (hQ (by decide) (by decide)) (hQ (by decide) (by decide)) (by simp) (nG bk)⟩
     rw [e,show l.tail=gu o++j from aw];simp [gu,hd,n4]
   split at h
   . rename_i Z
     have e:=gt af.1 (by decide) Z;obtain ⟨aw,bk⟩:=DK f _ _ _ h (af.tl e);exact ⟨e.trans aw,bk⟩
   split at h
   . cases h
   rename_i m x j G
   obtain ⟨aw,L,K⟩:=zr af.1 G;have ax:=af.of_eq aw
   split at h
   . rename_i Z
     have aE:=gt ax.1 (by decide) Z
     split at h
     . cases h
     rename_i o t J
     obtain ⟨b4,b5⟩:=p7 f _ _ _ J (ax.tl aE)
     split at h
     . rename_i E
       have b8:=gt ((ax.tl aE).of_eq b4).1 (by decide) E;obtain ⟨rfl,rfl⟩:=fD (fe h);refine ⟨?_,p6 (hQ (by decide) (by decide)) (hQ (by decide) (by decide)) (by simp) (nG b5)⟩
       rw [aw,aE,show j.tail=gu o++t from b4,b8];simp [gu,hd,n4]
     . cases h
   split at h
   . rename_i Z
     have aE:=gt ax.1 (by decide) Z
     split at h
     . cases h
     rename_i M t J
     obtain ⟨b4,b5,c3⟩:=zw f _ _ _ J (ax.tl aE);obtain ⟨rfl,rfl⟩:=fD (fe h);have bx:j.tail.length<=4096:=(ax.tl aE).2;refine ⟨?_,p6 (hQ (by decide) (by decide)) (hQ (by decide) (by decide)) (by omega) b5⟩
     rw [aw,aE,show j.tail=j5 (hd M)++fK ib :: t from b4];simp [gu,n4]
   . obtain ⟨rfl,rfl⟩:=fD (fe h)
     refine ⟨?_,p6 (hQ (by decide) (by decide)) (hQ (by decide) (by decide)) (by simp) (by unfold ft;exact n6)⟩
     rw [aw];simp [gu,n4]
theorem DK:∀ (f:Nat) (l c:List Tk) (q:fg),kh f l=some (q,c)->hG l->fK iU :: l=gu q++c/\D.fines q.ds
 | 0,_,_,_,h,_=>by simp [kh] at h
 | f + 1,l,c,q,h,af=>by
   unfold kh at h
   split at h
   . cases h
   rename_i a j G
   obtain ⟨aw,bk⟩:=p7 f _ _ _ G af;have ax:=af.of_eq aw
   split at h
   . cases h
   rename_i k N
   obtain ⟨aE,k9⟩:=DJ ax.1 N
   split at h
   . cases h
   rename_i b t J
   obtain ⟨b4,b5⟩:=p7 f _ _ _ J (ax.tl aE)
   split at h
   . rename_i Z
     have b8:=gt ((ax.tl aE).of_eq b4).1 (by decide) Z;obtain ⟨rfl,rfl⟩:=fD (fe h);refine ⟨?_,p6 (hQ (by omega) (by omega)) (hQ (by decide) (by decide)) (by simp) (zv bk b5)⟩
     have M:∀ ae,n4 (7+(k:Int)) 0 ⟨#[]⟩ ⟨#[]⟩ ae=fK iU :: (ae.getD 0 []++ty (7+k) :: (ae.getD 1 []++[fK ib])):=by
      intro ae;unfold n4;rw [if_neg (by omega),if_neg (by omega),if_neg (by omega),if_neg (by omega),if_neg (by omega),if_neg (by omega)]
     rw [aw,aE,show j.tail=gu b++t from b4,b8];simp only [gu,M,hd];simp
   . cases h
theorem zw:∀ (f:Nat) (l c:List Tk) (ae:List fg),iK f l=some (ae,c)->hG l->l=j5 (hd ae)++fK ib :: c/\D.fines (ft ae)/\ae.length<=l.length
 | 0,_,_,_,h,_=>by simp [iK] at h
 | f + 1,l,c,ae,h,af=>by
   unfold iK at h
   split at h
   . rename_i Z
     obtain ⟨rfl,rfl⟩:=fD (fe h);exact ⟨by simpa [hd,j5] using gt af.1 (by decide) Z,by unfold ft;exact n6,by simp⟩
   split at h
   . cases h
   rename_i q j G
   obtain ⟨aw,bk⟩:=p7 f _ _ _ G af;have a0:=mD f _ _ _ G;obtain ⟨aE,bm,a4⟩:=zx f [q] j c ae h (af.of_eq aw) (by simp) (by have:=af.2;simp;omega) (nG bk);refine ⟨?_,bm,by simp at a4;omega⟩
   rw [aw,← aE];simp [hd,j5]
theorem zx:∀ (f:Nat) (P:List fg) (l c:List Tk) (ae:List fg),kE f P l=some (ae,c)->hG l->P≠[]->P.length+l.length<=10000->D.fines (ft P)->j5 (hd P)++l=j5 (hd ae)++fK ib :: c/\D.fines (ft ae)/\ae.length<=P.length+l.length
 | 0,_,_,_,_,h,_,_,_,_=>by simp [kE] at h
 | f + 1,P,l,c,ae,h,af,aV,a1,ag=>by
   unfold kE at h
   split at h
   . rename_i Z
     have e:=gt af.1 (by decide) Z;have a2:=fN (by decide) Z
     split at h
     . cases h
     rename_i q j G
     obtain ⟨aw,bk⟩:=p7 f _ _ _ G (af.tl e);have a0:=mD f _ _ _ G;obtain ⟨aE,bm,a4⟩:=zx f (P++[q]) j c ae h ((af.tl e).of_eq aw) (by simp) (by simp;omega) (by rw [xd];exact D.fines_append ag (nG bk));refine ⟨?_,bm,by simp at a4;omega⟩;rw [← aE,zt,show hd [q]=[gu q] from by simp [hd],vT _ _ (by intro a3;apply aV;have:=zu P;rw [a3] at this;exact ii this.symm),e,show l.tail=gu q++j from aw];simp
   split at h
   . rename_i Z
     obtain ⟨rfl,rfl⟩:=fD (fe h);exact ⟨by rw [← gt af.1 (by decide) Z],ag,by omega⟩
   . cases h
end
def qa (p:Int) (m x:ByteArray) (ae:List (List Tk)):List Tk:=
 if p=1 then o7 m x++fK ln :: ae.getD 0 []
 else if p=2 then o7 m x++fK kT :: (ae.getD 0 []++fK kD :: fK ln :: ae.getD 1 [])
 else if p=3 then o7 m x++fK iU :: (j5 ae++[fK ib])
 else if p=6 then fK oC :: ae.getD 0 [] else fK pz :: ae.getD 0 []
def o8 (x:List Tk):List Tk:=fK pA :: (x++[fK lQ])
def sg (p:Int) (m x:ByteArray) (ae:List (List Tk)) (b o:List Tk) (k:Nat):List Tk:=
 if p=4 then fK mY :: (ae.getD 0 []++(o8 b++(if k=0 then [] else fK qz :: o8 o)))
 else if p=5 then fK nO :: (ae.getD 0 []++o8 b)
 else qa p m x ae++[fK hM]
mutual
def tS:St->List Tk
 | .mk p m x d U N=>sg p m x (hd d) (jN U) (jN N) N.length
def jN:List St->List Tk
 | []=>[]
 | s :: O=>tS s++jN O
end
variable {l c:List Tk} {O:Option (St × List Tk)} {s:St}
theorem zy:∀ (a b:List St),jN (a++b)=jN a++jN b
 | [],b=>by simp [jN]
 | q :: O,b=>by simp [jN,zy O b]
theorem DL (s:St):jN [s]=tS s:=by simp [jN]
theorem o9 {p:Int} {m x:ByteArray} {d:List fg} {U N:List St} (G:(Lit.int .i64 p).wf=true) (S:d.length<=10000) (a6:D.fines (ft d)) (ap:U.length<=10000) (aw:D.fines (fw U)) (ah:N.length<=10000) (q:D.fines (fw N)):D.fines (St.mk p m x d U N).ds:=by
 unfold St.ds;simp only [D.fines,D.fine];refine ⟨G,trivial,trivial,⟨?_,?_,a6⟩,⟨?_,?_,aw⟩,⟨?_,?_,q⟩,trivial⟩
 . rw [se];omega
 . rw [se];omega
 . rw [n5];omega
 . rw [n5];omega
 . rw [n5];omega
 . rw [n5];omega
theorem lE:D.fines (fw []):=by unfold fw;exact n6
theorem qb {x:fg} (h:pX l=some (x,c)) (af:hG l):l=gu x++c/\D.fines x.ds:=p7 _ _ _ _ h af
theorem DM {ae:List fg} (h:sH l=some (ae,c)) (af:hG l):l=j5 (hd ae)++fK ib :: c/\D.fines (ft ae)/\ae.length<=l.length:=zw _ _ _ _ h af
def pa:St->List Tk
 | .mk p m x d _ _=>qa p m x (hd d)
theorem DN (h:ic l=some (s,c)) (af:hG l):l++[]=pa s++c/\D.fines s.ds/\s.op≠4/\s.op≠5:=by
 unfold ic at h
 split at h
 . cases h
 rename_i m x j G
 obtain ⟨aw,L,K⟩:=zr af.1 G;have ax:=af.of_eq aw
 split at h
 . rename_i Z
   have aE:=gt ax.1 (by decide) Z
   split at h
   . cases h
   rename_i q t J
   obtain ⟨b4,b5⟩:=qb J (ax.tl aE);obtain ⟨rfl,rfl⟩:=fD (fe h);refine ⟨?_,o9 (hQ (by decide) (by decide)) (by simp) (nG b5) (by simp) lE (by simp) lE,by simp [St.op],by simp [St.op]⟩
   rw [ot,aw,aE,show j.tail=gu q++t from b4];simp [pa,hd,qa]
 split at h
 . rename_i Z
   have aE:=gt ax.1 (by decide) Z
   split at h
   . cases h
   rename_i q t J
   obtain ⟨b4,b5⟩:=qb J (ax.tl aE);have aQ:=(ax.tl aE).of_eq b4
   split at h
   . rename_i E
     have b8:=gt aQ.1 (by decide) E
     split at h
     . rename_i M
       have u:=gt (aQ.tl b8).1 (by decide) M
       split at h
       . cases h
       rename_i o a2 S
       obtain ⟨aP,v⟩:=qb S ((aQ.tl b8).tl u);obtain ⟨rfl,rfl⟩:=fD (fe h);refine ⟨?_,o9 (hQ (by decide) (by decide)) (by simp) (zv b5 v) (by simp) lE (by simp) lE,by simp [St.op],by simp [St.op]⟩
       rw [ot,aw,aE,show j.tail=gu q++t from b4,b8,show t.tail=fK ln :: t.tail.tail from u,show t.tail.tail=gu o++a2 from aP];simp [pa,hd,qa]
     . cases h
   . cases h
 split at h
 . rename_i Z
   have aE:=gt ax.1 (by decide) Z
   split at h
   . cases h
   rename_i ae t J
   obtain ⟨b4,b5,c3⟩:=DM J (ax.tl aE);have bx:j.tail.length<=4096:=(ax.tl aE).2;obtain ⟨rfl,rfl⟩:=fD (fe h);refine ⟨?_,o9 (hQ (by decide) (by decide)) (by omega) b5 (by simp) lE (by simp) lE,by simp [St.op],by simp [St.op]⟩
   rw [ot,aw,aE,show j.tail=j5 (hd ae)++fK ib :: t from b4];simp [pa,qa]
 . cases h
theorem vU {j t:List Tk} {s':St} (h:ki O=some (s,t)) (W:O=some (s',j)) (af:hG l) (e:l=pa s'++j) (a6:s'.op≠4) (ap:s'.op≠5):s=s'/\l=tS s'++t:=by
 subst W;unfold ki at h;simp only at h
 split at h
 . rename_i Z
   have aw:=gt (af.of_eq e).1 (by decide) Z;obtain ⟨rfl,rfl⟩:=fD (fe h);refine ⟨rfl,?_⟩;obtain ⟨p,m,x,d,U,N⟩:=s';have b:¬ p=4:=a6;have a:¬ p=5:=ap;rw [e,aw];simp [pa,tS,sg,b,a]
 . cases h
theorem DO (h:ki O=some (s,l)):∃ u j,O=some (u,j):=by
 cases O with
 | none=>cases h
 | some y=>exact ⟨y.1,y.2,rfl⟩
mutual
theorem DP:∀ (f:Nat) (l c:List Tk) (s:St),hi f l=some (s,c)->hG l->l=tS s++c/\D.fines s.ds
 | 0,_,_,_,h,_=>by simp [hi] at h
 | f + 1,l,c,s,h,af=>by
   unfold hi at h
   split at h
   . rename_i Z
     have e:=gt af.1 (by decide) Z
     split at h
     . cases h
     rename_i q j G
     obtain ⟨aw,bk⟩:=qb G (af.tl e);have ax:=(af.tl e).of_eq aw
     split at h
     . cases h
     rename_i b t J
     obtain ⟨aE,bm,a4⟩:=si f _ _ _ J ax;have bf:=ax.of_eq aE;have ak:=ax.2
     split at h
     . rename_i E
       have b4:=gt bf.1 (by decide) E
       split at h
       . cases h
       rename_i o a2 S
       obtain ⟨b8,bP,am⟩:=si f _ _ _ S (bf.tl b4);have au:t.tail.length<=4096:=(bf.tl b4).2
       split at h
       . cases h
       rename_i aa
       obtain ⟨rfl,rfl⟩:=fD (fe h);refine ⟨?_,o9 (hQ (by decide) (by decide)) (by simp) (nG bk) (by omega) bm (by omega) bP⟩
       have g:¬ o=[]:=fun a3=>aa (by rw [a3];rfl)
       rw [e,show l.tail=gu q++j from aw,aE,b4,show t.tail=o8 (jN o)++a2 from b8];simp [tS,hd,sg,g]
     . obtain ⟨rfl,rfl⟩:=fD (fe h)
       refine ⟨?_,o9 (hQ (by decide) (by decide)) (by simp) (nG bk) (by omega) bm (by simp) lE⟩
       rw [e,show l.tail=gu q++j from aw,aE];simp [tS,hd,sg]
   split at h
   . rename_i Z
     have e:=gt af.1 (by decide) Z
     split at h
     . cases h
     rename_i q j G
     obtain ⟨aw,bk⟩:=qb G (af.tl e);have ax:=(af.tl e).of_eq aw
     split at h
     . cases h
     rename_i b t J
     obtain ⟨aE,bm,a4⟩:=si f _ _ _ J ax;have ak:=ax.2;obtain ⟨rfl,rfl⟩:=fD (fe h);refine ⟨?_,o9 (hQ (by decide) (by decide)) (by simp) (nG bk) (by omega) bm (by simp) lE⟩
     rw [e,show l.tail=gu q++j from aw,aE];simp [tS,hd,sg]
   split at h
   . rename_i Z
     have e:=gt af.1 (by decide) Z
     cases G:pX l.tail with
     | none=>rw [G] at h;cases h
     | some y=>
       obtain ⟨q,j⟩:=y;rw [G] at h;obtain ⟨aw,bk⟩:=qb G (af.tl e);obtain ⟨rfl,aE⟩:=vU h rfl af (by rw [e,aw];simp [pa,qa,hd]) (by simp [St.op]) (by simp [St.op]);exact ⟨aE,o9 (hQ (by decide) (by decide)) (by simp) (nG bk) (by simp) lE (by simp) lE⟩
   split at h
   . rename_i Z
     have e:=gt af.1 (by decide) Z
     cases G:pX l.tail with
     | none=>rw [G] at h;cases h
     | some y=>
       obtain ⟨q,j⟩:=y;rw [G] at h;obtain ⟨aw,bk⟩:=qb G (af.tl e);obtain ⟨rfl,aE⟩:=vU h rfl af (by rw [e,aw];simp [pa,qa,hd]) (by simp [St.op]) (by simp [St.op]);exact ⟨aE,o9 (hQ (by decide) (by decide)) (by simp) (nG bk) (by simp) lE (by simp) lE⟩
   . obtain ⟨u,j,W⟩:=DO h
     obtain ⟨aw,bk,a6,ap⟩:=DN W af;rw [ot] at aw;obtain ⟨rfl,aE⟩:=vU h W af aw a6 ap;exact ⟨aE,bk⟩
theorem si:∀ (f:Nat) (l c:List Tk) (b:List St),ij f l=some (b,c)->hG l->l=o8 (jN b)++c/\D.fines (fw b)/\b.length<=l.length
 | 0,_,_,_,h,_=>by simp [ij] at h
 | f + 1,l,c,b,h,af=>by
   unfold ij at h
   split at h
   . rename_i Z
     have e:=gt af.1 (by decide) Z;have a2:=fN (by decide) Z;have k:=(af.tl e).2;obtain ⟨aw,bk,a9⟩:=zz f [] l.tail c b h (af.tl e) (by simp at k ⊢;omega) lE;refine ⟨?_,bk,by simp at a9;omega⟩
     rw [e,show l.tail=jN b++fK lQ :: c from by simpa [jN] using aw];simp [o8]
   . cases h
theorem zz:∀ (f:Nat) (P:List St) (l c:List Tk) (b:List St),kU f P l=some (b,c)->hG l->P.length+l.length<=10000->D.fines (fw P)->jN P++l=jN b++fK lQ :: c/\D.fines (fw b)/\b.length<=P.length+l.length
 | 0,_,_,_,_,h,_,_,_=>by simp [kU] at h
 | f + 1,P,l,c,b,h,af,a1,ag=>by
   unfold kU at h
   split at h
   . rename_i Z
     obtain ⟨rfl,rfl⟩:=fD (fe h);exact ⟨by rw [← gt af.1 (by decide) Z],ag,by omega⟩
   split at h
   . cases h
   rename_i s j G
   obtain ⟨aw,bk⟩:=DP f _ _ _ G af;have a0:=wI f _ _ _ G;obtain ⟨aE,bm,a4⟩:=zz f (P++[s]) j c b h (af.of_eq aw) (by simp;omega) (by rw [xe,AG];exact D.fines_append ag bk);refine ⟨?_,bm,by simp at a4;omega⟩
   rw [← aE,zy,DL,aw];simp
end
variable {b l c:List Tk} {m:fh} {x:ByteArray} {ps:List ByteArray}
def tz (b:Bool):List Tk:=if b then [fK fQ] else []
theorem zA (W:hu l):l=tz (eF l fQ)++hH l:=by
 unfold tz hH
 cases h:eF l fQ with
 | true=>exact gt W (by decide) h
 | false=>rfl
def gZ (d:ge):List Tk:=tz d.pub++(if d.kind=1 then [fK sB,iQ d.name,fK ln,qU d.n,fK hM] else if d.kind=2 then [fK sC,iQ d.name,fK hM] else [fK sD,iQ d.name,fK kT,qU d.n,fK kD,fK hM])
theorem vV {k n:Int} {p:Bool} (G:(Lit.int .i64 k).wf=true) (J:(Lit.int .i64 n).wf=true):D.fines (ge.mk k x p n).ds:=by
 simp only [ge.ds,D.fines,D.fine];exact ⟨G,trivial,trivial,J,trivial⟩
theorem DQ {d:ge} (h:gM l=some (d,c)) (af:hG l):l=gZ d++c/\D.fines d.ds:=by
 have f:=zA af.1;have a:=af.of_eq f;unfold gM at h
 split at h
 . rename_i Z
   have e:=gt a.1 (by decide) Z
   split at h
   . cases h
   rename_i n j G
   obtain ⟨aw,L⟩:=nF (a.tl e).1 G;have ax:=(a.tl e).tl aw
   split at h
   . rename_i E
     have aE:=gt ax.1 (by decide) E
     split at h
     . cases h
     rename_i k t J
     obtain ⟨b4,ag,ak⟩:=vS (ax.tl aE).1 J;have aQ:=(ax.tl aE).tl b4
     split at h
     . rename_i M
       have b8:=gt aQ.1 (by decide) M;obtain ⟨rfl,rfl⟩:=fD (fe h);refine ⟨?_,vV (hQ (by decide) (by decide)) (hQ (by omega) (by omega))⟩;refine f.trans ?_
       rw [e,show (hH l).tail=iQ n :: j from aw,aE,show j.tail=qU k :: t from b4,b8];simp [gZ]
     . cases h
   . cases h
 split at h
 . rename_i Z
   have e:=gt a.1 (by decide) Z
   split at h
   . cases h
   rename_i n j G
   obtain ⟨aw,L⟩:=nF (a.tl e).1 G;have ax:=(a.tl e).tl aw
   split at h
   . rename_i M
     have b8:=gt ax.1 (by decide) M;obtain ⟨rfl,rfl⟩:=fD (fe h);refine ⟨?_,vV (hQ (by decide) (by decide)) (hQ (by decide) (by decide))⟩;refine f.trans ?_
     rw [e,show (hH l).tail=iQ n :: j from aw,b8];simp [gZ]
   . cases h
 split at h
 . rename_i Z
   have e:=gt a.1 (by decide) Z
   split at h
   . cases h
   rename_i n j G
   obtain ⟨aw,L⟩:=nF (a.tl e).1 G;have ax:=(a.tl e).tl aw
   split at h
   . rename_i E
     have aE:=gt ax.1 (by decide) E
     split at h
     . cases h
     rename_i k t J
     obtain ⟨b4,ag,ak⟩:=vS (ax.tl aE).1 J;have aQ:=(ax.tl aE).tl b4
     split at h
     . rename_i M
       have b8:=gt aQ.1 (by decide) M
       split at h
       . rename_i o
         have u:=gt (aQ.tl b8).1 (by decide) o;obtain ⟨rfl,rfl⟩:=fD (fe h);refine ⟨?_,vV (hQ (by decide) (by decide)) (hQ (by omega) (by omega))⟩;refine f.trans ?_
         rw [e,show (hH l).tail=iQ n :: j from aw,aE,show j.tail=qU k :: t from b4,b8,show t.tail=fK hM :: t.tail.tail from u];simp [gZ]
       . cases h
     . cases h
   . cases h
 . cases h
def qV (ps:List ByteArray):List Tk:=j5 (ps.map (fun n=>[iQ n]))
theorem zB:∀ (f:Nat) (P:List ByteArray) (l c:List Tk) (ps:List ByteArray),kP f P l=some (ps,c)->hG l->P≠[]->qV P++l=qV ps++fK ib :: c/\ps.length<=P.length+l.length
 | 0,_,_,_,_,h,_,_=>by simp [kP] at h
 | f + 1,P,l,c,ps,h,af,aV=>by
   unfold kP at h
   split at h
   . rename_i Z
     have e:=gt af.1 (by decide) Z;have a2:=fN (by decide) Z
     split at h
     . cases h
     rename_i n j G
     obtain ⟨aw,_⟩:=nF (af.tl e).1 G;have a0:=jZ G;obtain ⟨aE,a4⟩:=zB f (P++[n]) j c ps h ((af.tl e).tl aw) (by simp);refine ⟨?_,by simp at a4;omega⟩;rw [← aE];unfold qV;rw [mq,show [n].map (fun n=>[iQ n])=[[iQ n]] from rfl,vT _ _ (by simpa using aV),e,show l.tail=iQ n :: j from aw];simp
   split at h
   . rename_i Z
     obtain ⟨rfl,rfl⟩:=fD (fe h);exact ⟨by rw [← gt af.1 (by decide) Z],by omega⟩
   . cases h
theorem DR (h:kQ l=some (ps,c)) (af:hG l):l=qV ps++fK ib :: c/\ps.length<=l.length:=by
 unfold kQ at h
 split at h
 . rename_i Z
   obtain ⟨rfl,rfl⟩:=fD (fe h);exact ⟨gt af.1 (by decide) Z,by simp⟩
 split at h
 . cases h
 rename_i n j G
 obtain ⟨aw,_⟩:=nF af.1 G;have a0:=jZ G;obtain ⟨aE,a4⟩:=zB _ [n] j c ps h (af.tl aw) (by simp);exact ⟨by rw [aw,← aE];rfl,by simp at a4;omega⟩
def n7 (t:ByteArray) (l:List ByteArray):List Tk:=l.flatMap (fun n=>[fK t,iQ n,fK hM])
theorem vW (t:ByteArray) (aj:0<t.size):∀ (f:Nat) (P:List ByteArray) (l c:List Tk) (y:List ByteArray),hk t f P l=some (y,c)->hG l->n7 t P++l=n7 t y++c/\y.length<=P.length+l.length
 | 0,_,_,_,_,h,_=>by simp [hk] at h
 | f + 1,P,l,c,y,h,af=>by
   unfold hk at h
   split at h
   . rename_i Z
     have e:=gt af.1 aj Z;have a2:=fN aj Z
     split at h
     . cases h
     rename_i n j G
     obtain ⟨aw,_⟩:=nF (af.tl e).1 G;have a0:=jZ G;have ax:=(af.tl e).tl aw
     split at h
     . rename_i E
       have aE:=gt ax.1 (by decide) E;have Q:=fN (by decide) E;obtain ⟨b4,c3⟩:=vW t aj f (P++[n]) j.tail c y h (ax.tl aE);refine ⟨?_,by simp at c3 Q ⊢;omega⟩;rw [← b4,e,show l.tail=iQ n :: j from aw]
       conv=>lhs;rw [aE]
       simp [n7]
     . cases h
   . obtain ⟨rfl,rfl⟩:=fD (fe h)
     exact ⟨rfl,by omega⟩
def tP (p:fH):List Tk:=tz p.pub++fK xq :: iQ p.name :: fK iU :: (qV p.params++fK ib :: (n7 kC p.locals++o8 (jN p.body)))
theorem tA:∀ (l:List ByteArray),D.fines (fj l)
 | []=>n6
 | q :: O=>by
   show D.fines (.str q :: fj O);simp only [D.fines,D.fine];exact ⟨trivial,tA O⟩
theorem DT {aV:Bool} {y:List ByteArray} {b:List St} (G:ps.length<=10000) (J:y.length<=10000) (S:b.length<=10000) (a6:D.fines (fw b)):D.fines (fH.mk x aV ps y b).ds:=by
 simp only [fH.ds,D.fines,D.fine];refine ⟨trivial,trivial,⟨?_,?_,tA _⟩,⟨?_,?_,tA _⟩,⟨?_,?_,a6⟩,trivial⟩
 . simp [fj]
 . simp [fj];omega
 . simp [fj]
 . simp [fj];omega
 . rw [n5];omega
 . rw [n5];omega
theorem DU {p:fH} (h:jn l=some (p,c)) (af:hG l):l=tP p++c/\D.fines p.ds:=by
 have f:=zA af.1;have a:=af.of_eq f;unfold jn at h
 split at h
 . rename_i Z
   have e:=gt a.1 (by decide) Z
   split at h
   . cases h
   rename_i n j G
   obtain ⟨aw,L⟩:=nF (a.tl e).1 G;have ax:=(a.tl e).tl aw
   split at h
   . rename_i E
     have aE:=gt ax.1 (by decide) E;have bf:=ax.tl aE
     split at h
     . cases h
     rename_i ps t J
     obtain ⟨b4,c3⟩:=DR J bf;have g:=bf.of_eq b4;have aQ:hG t:=g.tl rfl
     split at h
     . cases h
     rename_i y a2 S
     obtain ⟨b8,am⟩:=vW kC (by decide) _ [] _ _ _ S aQ
     have d:t=n7 kC y++a2:=by simpa [n7] using b8
     have bn:=aQ.of_eq d
     split at h
     . cases h
     rename_i b i a6
     obtain ⟨u,F,aX⟩:=si _ _ _ _ a6 bn;obtain ⟨rfl,rfl⟩:=fD (fe h);have au:j.tail.length<=4096:=bf.2;have aI:=aQ.2;have bq:=bn.2;refine ⟨?_,DT (by omega) (by simp at am;omega) (by omega) F⟩;refine f.trans ?_
     rw [e,show (hH l).tail=iQ n :: j from aw,aE,show j.tail=qV ps++fK ib :: t from b4,d,u];simp [tP]
   . cases h
 . cases h
theorem zC:∀ (f:Nat) (P:List ge) (l c:List Tk) (y:List ge),lG f P l=some (y,c)->hG l->D.fines (iD P)->P.flatMap gZ++l=y.flatMap gZ++c/\D.fines (iD y)/\y.length<=P.length+l.length
 | 0,_,_,_,_,h,_,_=>by simp [lG] at h
 | f + 1,P,l,c,y,h,af,ag=>by
   unfold lG at h
   split at h
   . split at h
     . cases h
     rename_i o j G
     obtain ⟨aw,bk⟩:=DQ G af;have a0:=As G;obtain ⟨aE,bm,a4⟩:=zC f (P++[o]) j c y h (af.of_eq aw) (by rw [show iD (P++[o])=iD P++o.ds from by simp [iD]];exact D.fines_append ag bk);refine ⟨?_,bm,by simp at a4;omega⟩
     rw [← aE,aw];simp
   . obtain ⟨rfl,rfl⟩:=fD (fe h)
     exact ⟨rfl,ag,by omega⟩
theorem zD:∀ (f:Nat) (P:List fH) (l c:List Tk) (ps:List fH),lH f P l=some (ps,c)->hG l->D.fines (hK P)->P.flatMap tP++l=ps.flatMap tP++fK qy :: c/\D.fines (hK ps)/\ps.length<=P.length+l.length
 | 0,_,_,_,_,h,_,_=>by simp [lH] at h
 | f + 1,P,l,c,ps,h,af,ag=>by
   unfold lH at h
   split at h
   . rename_i Z
     obtain ⟨rfl,rfl⟩:=fD (fe h);exact ⟨by rw [← gt af.1 (by decide) Z],ag,by omega⟩
   . split at h
     . cases h
     rename_i y j G
     obtain ⟨aw,bk⟩:=DU G af;have a0:=Av G;obtain ⟨aE,bm,a4⟩:=zD f (P++[y]) j c ps h (af.of_eq aw) (by rw [show hK (P++[y])=hK P++y.ds from by simp [hK]];exact D.fines_append ag bk);refine ⟨?_,bm,by simp at a4;omega⟩
     rw [← aE,aw];simp
def j6 (m:fh):List Tk:=fK uy :: iQ m.name :: fK pA :: (n7 lm m.uses++(m.decls.flatMap gZ++(m.procs.flatMap tP++fK qy :: (o8 (jN m.main)++[fK lQ]))))
structure vX (m:fh):Prop where
 uses:m.uses.length<=10000
 decls:m.decls.length<=10000
 procs:m.procs.length<=10000
 main:m.main.length<=10000
 fd:D.fines (iD m.decls)
 fp:D.fines (hK m.procs)
 fm:D.fines (fw m.main)
theorem DV (h:kv l=some (m,c)) (af:hG l):l=j6 m++c/\vX m:=by
 unfold kv at h
 split at h
 . rename_i Z
   have e:=gt af.1 (by decide) Z
   split at h
   . cases h
   rename_i n j G
   obtain ⟨aw,L⟩:=nF (af.tl e).1 G;have ax:=(af.tl e).tl aw
   split at h
   . rename_i E
     have aE:=gt ax.1 (by decide) E;have bf:=ax.tl aE;have au:j.tail.length<=4096:=bf.2
     split at h
     . cases h
     rename_i B t J
     obtain ⟨b4,c3⟩:=vW lm (by decide) _ [] _ _ _ J bf
     have g:j.tail=n7 lm B++t:=by simpa [n7] using b4
     have aQ:=bf.of_eq g;have aI:=aQ.2
     split at h
     . cases h
     rename_i y a2 S
     obtain ⟨b8,bP,am⟩:=zC _ [] _ _ _ S aQ n6
     have d:t=y.flatMap gZ++a2:=by simpa using b8
     have bn:=aQ.of_eq d;have bq:=bn.2
     split at h
     . cases h
     rename_i ps i a6
     obtain ⟨u,F,aX⟩:=zD _ [] _ _ _ a6 bn n6
     have f:a2=ps.flatMap tP++fK qy :: i:=by simpa using u
     have bs:hG i:=(bn.of_eq f).tl rfl;have c9:=bs.2
     split at h
     . cases h
     rename_i b a0 ap
     obtain ⟨aP,v,aR⟩:=si _ _ _ _ ap bs;have aO:=bs.of_eq aP
     split at h
     . rename_i M
       have a:=gt aO.1 (by decide) M;obtain ⟨rfl,rfl⟩:=fD (fe h);refine ⟨?_,⟨by show B.length<=10000;simp at c3 au;omega,by show y.length<=10000;simp at am;omega,by show ps.length<=10000;simp at aX;omega,by show b.length<=10000;omega,bP,F,v⟩⟩
       rw [e,show l.tail=iQ n :: j from aw,aE,g,d,f,aP,a];simp [j6]
     . cases h
   . cases h
 . cases h
inductive tB:fg->Prop
 | mk {op n:Int} {m nm:ByteArray} {args:List fg} (h1:mX op=true) (h2:hx (hg op) m nm=true) (h3:kA (hg op) n=true) (h4:h9 (hg op) args.length=true) (h5:∀ a ∈ args,tB a):tB (.mk op n m nm args)
theorem zE:∀ (k:Nat) (l:List fg),ia k l=true->gh k l=false->hh k l=true->∀ q ∈ l,tB q
 | 0,l,_,J,_,q,Q=>by
   simp [gh] at J;rw [J] at Q;cases Q
 | k+1,l,G,J,S,q,Q=>by
   simp only [ia,hJ] at G;simp only [gh,jf] at J;simp only [hh,hJ] at S;have Y:=G q Q;have a7:=S q Q
   have a5:gh k q.args=false:=by
    have:=J.2;rw [oq] at this;simpa using this q Q
   simp only [fs] at Y a7;obtain ⟨p,n,m,x,d⟩:=q;exact .mk Y.1 a7.1 a7.2.1 a7.2.2.1 (zE k d Y.2 a5 a7.2.2.2)
theorem zF {α:Type} {l:List α} (h:decide (0<l.length)=false):l=[]:=ii (by have:=of_decide_eq_false h;omega)
inductive qc:St->Prop
 | mk {op:Int} {m nm:ByteArray} {args:List fg} {body other:List St} (h1:my op=true) (h2:hx (fA op) m nm=true) (h3:h9 (fA op) args.length=true) (h4:∀ a ∈ args,tB a) (h5:(fA op).body=true\/body=[]) (h6:(fA op).other=true\/other=[]) (h7:∀ s ∈ body,qc s) (h8:∀ s ∈ other,qc s):qc (.mk op m nm args body other)
theorem vY:∀ (k:Nat) (l:List St),gP k l=true->fC k l=false->gp k l=true->∀ s ∈ l,qc s
 | 0,l,_,J,_,q,Q=>by simp [fC] at J
 | k + 1,l,G,J,S,q,Q=>by
   simp only [gP,hJ] at G;simp only [fC,jf] at J;simp only [gp,hJ] at S;have Y:=G q Q;have a7:=S q Q;have a5:=J.2;rw [oq] at a5;have a5:=a5 q Q;simp only [fs] at Y a7;simp only [rp,jf,tU] at a5;obtain ⟨p,m,x,d,U,N⟩:=q
   have F:(fA p).body=true\/U=[]:=by
    have:=a7.2.2.2.1;simp [St.op,St.body] at this;exact this
   have aa:(fA p).other=true\/N=[]:=by
    have:=a7.2.2.2.2.1;simp [St.op,St.other] at this;exact this
   have b:U=[]\/fC k U=false:=by
    rcases a5.2.1 with h | h
    . left
      simp [St.op,St.body] at h;exact zF h.2
    . exact Or.inr h
   have a:N=[]\/fC k N=false:=by
    rcases a5.2.2 with h | h
    . left
      exact zF h
    . exact Or.inr h
   refine .mk Y.1 a7.1 a7.2.1 (zE 6 d Y.2.1 a5.1 a7.2.2.1) F aa ?_ ?_
   . rcases b with h | h
     . rw [h];intro s Z;cases Z
     . exact vY k U Y.2.2.1 h a7.2.2.2.2.2.1
   . rcases a with h | h
     . rw [h];intro s Z;cases Z
     . exact vY k N Y.2.2.2 h a7.2.2.2.2.2.2
structure DW (m:fh):Prop where
 name:nameOk m.name=true
 uses:∀ u ∈ m.uses,nameOk u=true
 decls:∀ d ∈ m.decls,nameOk d.name=true/\kB d=true/\1<=d.kind/\d.kind<=3
 procs:∀ p ∈ m.procs,nameOk p.name=true/\(∀ n ∈ p.params,nameOk n=true)/\(∀ n ∈ p.locals,nameOk n=true)/\(∀ s ∈ p.body,qc s)
 main:∀ s ∈ m.main,qc s
theorem zG (h:m.err=0):m.kinds=true/\m.many=false/\m.form=true:=by
 unfold fh.err at h
 cases N:m.kinds with
 | false=>rw [N] at h;simp at h
 | true=>
   rw [N] at h
   cases a8:m.many with
   | true=>rw [a8] at h;simp at h
   | false=>
     rw [a8] at h
     cases ag:m.form with
     | false=>rw [ag] at h;simp at h
     | true=>exact ⟨rfl,rfl,rfl⟩
theorem DX (h:m.err=0):DW m:=by
 obtain ⟨N,a8,ag⟩:=zG h;unfold fh.kinds at N;unfold fh.many at a8;unfold fh.form at ag;simp only [fs,hJ,decide_eq_true_eq] at N ag;simp only [jf] at a8;have a:=a8.2.2.2.2;rw [oq] at a
 have U:∀ b ∈ m.bodies,∀ s ∈ b,qc s:=fun b F=>vY 6 b (N.2 b F) (by simpa using a b F) (ag.2.2.2.2 b F)
 exact {
  name:=ag.1
  uses:=ag.2.1
  decls:=fun o ez=>⟨(ag.2.2.1 o ez).1,(ag.2.2.1 o ez).2,N.1 o ez⟩
  procs:=fun y az=>⟨(ag.2.2.2.1 y az).1,(ag.2.2.2.1 y az).2.1,(ag.2.2.2.1 y az).2.2,U y.body (by unfold fh.bodies;simp;exact Or.inl ⟨y,az,rfl⟩)⟩
  main:=U m.main (by unfold fh.bodies;simp) }
theorem hu.append {a:List Tk} (h:hu a) (k:hu b):hu (a++b):=⟨by rw [lL,h.1,k.1];rfl,by rw [lL,h.2,k.2];rfl⟩
theorem hu.cons {t:Tk} (h:hu [t]) (k:hu b):hu (t :: b):=hu.append (a:=[t]) h k
theorem hu.nil:hu []:=⟨rfl,rfl⟩
end Go.Proofs.YtndkhgakfodldaaGreatDoor
