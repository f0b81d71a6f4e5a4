import Derived.Test.YtndkhgakfodldaaGreatDoorYa
set_option maxRecDepth 100000
set_option maxHeartbeats 3200000
set_option linter.unusedSimpArgs false
set_option linter.unusedVariables false
open List renaming length → Ln
namespace Go.Proofs.YtndkhgakfodldaaGreatDoor
open Go.RowKit Go.Maps Go.WideMaps
theorem yt (o:eO):km o=ju (Ln o.fixes) (kl o):=rfl
theorem CY (o:eO) (E:OA) (T:Nat) (H:OA) (y3:Nat) (aj:OA) (y4:Nat) (al:OA) (y5:Nat) (w:World) (aQ:jk w o E H aj al) :
 ew 84 #[.agg #[.string o.name,.slice E (Ln o.uses) T,em o.data,.slice H (Ln o.code) y3,.slice aj (Ln o.fixes) y4,.slice al (Ln o.entries) y5,em o.main]] w fun e r=>e = .returned (.bool (km o))/\et w r:=by
 have aW:=aQ.fixes.bound;have aG:=hid aQ;have A:=hid (fun (q:Int) (M:World)=>CF o o.name E (Ln o.uses) T o.data H y3 aj (Ln o.fixes) y4 al (Ln o.entries) y5 o.main q M aQ.code.bound);have S:=hid (fun (f:gQ) (M:World) (L:et w M) (az:hV o f.at_=true)=>KO o E T H y3 aj y4 al y5 f M az (aQ.code.later L) aQ.uses.bound);clear aQ;go_enter Tryz.func84,Tryz.ntmps84;go_wp2_with fail
 go_loopw [3,9] (fun v i wr=>∃ j:Nat,j<=Ln o.fixes/\i=em j/\v=em (lx o j)/\(∀ k,k<j->kl o k=true)/\et w wr/\wr.heap[w.heap.size]? = some (k0 o E T H y3 aj y4 al y5)) (fun _ i _=>Ln o.fixes - (intOf i).toNat)
 case atStart=>exact ⟨0,eY _,rfl,rfl,fun k N=>absurd N (jU k),ey _ _,eT w (k0 o E T H y3 aj y4 al y5)⟩
 case round=>
  obtain ⟨j,ac,rfl,rfl,aO,F,ab⟩:=hrel;obtain ⟨av,an,aD,aR,b3,q5,q6,_⟩:=f6 ab;have aV:=lt_of_heap ab;have ad:=hid F;have aN:=hid ab;have b8:=hid aO;clear aO ab F
  by_cases a0:j<Ln o.fixes
  . obtain ⟨V,C,rfl,Q⟩:=(aG.later ad).fixes.gf j a0
    have aH:Hid (kl o j=(decide (lx o j<o.fixes[j].at_)&&(hV o o.fixes[j].at_&&mL o o.fixes[j]))):=by show _=_;unfold kl;rw [gb a0]
    have aJ:Hid (lx o (j+1)=o.fixes[j].at_):=by show (match o.fixes[j]? with | some f=>f.at_ | none=>-1)=_;rw [gb a0]
    have p:=hid (fun (h:kl o j=false)=>(by rw [yt,lu a0 h]:km o=false));have P:=hid (fun (h:kl o j=true)=>lw b8 (h));obtain ⟨ap,a6,be,fE,_,_,_⟩:=Q;generalize o.fixes[j]=f at *;generalize lx o j=ae at *
    by_cases l:ae<f.at_
    . have y:=hid (fF (o:=.cells #[em f.at_,em f.kind,em f.m] 67) aN)
      have m:=hid (eT wr (.cells #[em f.at_,em f.kind,em f.m] 67));have aM:=hid (es ad (ey wr (.cells #[em f.at_,em f.kind,em f.m] 67)))
      have bl:wr.heap.size<(wr.alloc (.cells #[em f.at_,em f.kind,em f.m] 67)).heap.size:=by simp
      have b0:w.heap.size<(wr.alloc (.cells #[em f.at_,em f.kind,em f.m] 67)).heap.size:=by simp;omega
      have b:=hid b0;have a:=hid bl;clear b0 bl;go_wp2_with fail;refine (A f.at_ _).mono ?_;rintro e eq ⟨rfl,ai⟩;have B:=hid (es aM ai);have g:=hid ((ai.block _ b).trans y);have d:=hid ((ai.block _ a).trans m);clear av an aD aR b3 q5 q6 aV ai a6 be fE ap;obtain ⟨av,an,aD,aR,b3,q5,q6,_⟩:=f6 g;have aV:=lt_of_heap g;obtain ⟨a6,be,fE,_⟩:=pG d;have a7:=lt_of_heap d
      cases az:hV o f.at_ with
      | false=>
        have z:=hid (p (by rw [aH.out,az];simp));go_wp2_with fail;go_ret;exact ⟨ret_bool z.symm,B⟩
      | true=>
        have ao:=hid (S f eq B az);go_wp2_with fail;refine ao.mono ?_;rintro e w2 ⟨rfl,aB⟩;have aP:=hid (es B aB);have Z:=hid ((aB.block _ aV).trans g);have x:=hid ((aB.block _ a7).trans d);clear av an aD aR b3 q5 q6 aV a6 be fE a7 aB;obtain ⟨a6,be,fE,_⟩:=pG x;have a7:=lt_of_heap x
        cases ag:mL o f with
        | false=>
          have z:=hid (p (by rw [aH.out,ag];simp));go_wp2_with fail;go_ret;exact ⟨ret_bool z.symm,aP⟩
        | true=>
          have a4:=hid (P (by rw [aH.out,ag,az,decide_eq_true l];rfl));go_wp2_with fail;go_roundw
          case rel=>exact ⟨j+1,by omega,by go_num,by rw [aJ.out],a4,aP,Z⟩
          case measure=>simp [intOf];omega
    . have z:=hid (p (by rw [aH.out,decide_eq_false l];rfl))
      have I:f.at_<=ae:=by omega
      clear l;go_wp2_with fail;go_ret;exact ⟨ret_bool z.symm,es ad (ey _ _)⟩
  . obtain rfl:j=Ln o.fixes:=by omega
    have z:Hid (km o=true):=by show _=_;rw [yt,iO.2 b8.out]
    go_wp2_with fail;go_ret;exact ⟨ret_bool z.symm,ad⟩
theorem CZ (o:eO) (E:OA) (T:Nat) (H:OA) (y3:Nat) (aj:OA) (y4:Nat) (al:OA) (y5:Nat) (w:World) (aQ:jk w o E H aj al) (s:Ln o.uses<=T) :
 ew 32 #[.agg #[.string o.name,.slice E (Ln o.uses) T,em o.data,.slice H (Ln o.code) y3,.slice aj (Ln o.fixes) y4,.slice al (Ln o.entries) y5,em o.main]] w fun e r=>e = .returned (em (gd o))/\et w r:=by
 have b2:Hid (gd o=if j4 o=true then 2 else if (kk o&&(hA o&&km o))=true then 0 else 1):=rfl;have aq:=hid (KE o o.name E T o.data H y3 aj (Ln o.fixes) y4 al y5 o.main (w.alloc (k0 o E T H y3 aj y4 al y5)) aQ.uses.bound aQ.code.bound aQ.entries.bound);have aF:=hid (fun (M:World) (L:et w M) (S:Ln o.uses<=3)=>KJ o E T H y3 aj y4 al y5 M (aQ.later L) S s);have ao:=hid (fun (M:World) (L:et w M)=>KH o E T H y3 aj y4 al y5 M (aQ.later L));have p:=hid (fun (M:World) (L:et w M)=>CY o E T H y3 aj y4 al y5 M (aQ.later L));clear aQ;go_enter Tryz.func32,Tryz.ntmps32;go_wp2_with fail;refine aq.mono ?_;rintro e eq ⟨rfl,ai⟩;have B:=hid (es (ey w _) ai);have g:=hid ((ai.block _ (by simp)).trans (eT w (k0 o E T H y3 aj y4 al y5)));clear ai
 obtain ⟨av,an,aD,aR,b3,q5,q6,_⟩:=f6 g;have aV:=lt_of_heap g
 cases a8:j4 o with
 | true=>
   have z:Hid (gd o=2):=by show _=_;rw [b2.out,a8];rfl
   go_wp2_with fail;go_ret;exact ⟨by rw [z.out];first | done | rfl,B⟩
 | false=>
 have S:Ln o.uses<=3:=by
  unfold j4 at a8;simp only [jf,decide_eq_false_iff_not] at a8;omega
 have z:Hid (gd o=if (kk o&&(hA o&&km o))=true then 0 else 1):=by show _=_;rw [b2.out,a8];rfl
 have b:=hid (aF eq B S);clear a8 S b2;go_wp2_with fail;refine b.mono ?_;rintro e w2 ⟨rfl,aB⟩;have aM:=hid (es B aB);have y:=hid ((aB.block _ aV).trans g);have a:=hid (ao w2 aM);clear aB av an aD aR b3 q5 q6 aV;obtain ⟨av,an,aD,aR,b3,q5,q6,_⟩:=f6 y;have aV:=lt_of_heap y
 cases U:kk o with
 | false=>
   have v:Hid (gd o=1):=by show _=_;rw [z.out,U];rfl
   go_wp2_with fail;go_ret;exact ⟨by rw [v.out];first | done | rfl,aM⟩
 | true=>
 have aZ:Hid (gd o=if (hA o&&km o)=true then 0 else 1):=by show _=_;rw [z.out,U];rfl
 go_wp2_with fail;refine a.mono ?_;rintro e eC ⟨rfl,a2⟩;have aP:=hid (es aM a2);have Z:=hid ((a2.block _ aV).trans y);have n:=hid (p eC aP);clear a2 av an aD aR b3 q5 q6 aV;obtain ⟨av,an,aD,aR,b3,q5,q6,_⟩:=f6 Z;have aV:=lt_of_heap Z
 cases a1:hA o with
 | false=>
   have v:Hid (gd o=1):=by show _=_;rw [aZ.out,a1];rfl
   go_wp2_with fail;go_ret;exact ⟨by rw [v.out];first | done | rfl,aP⟩
 | true=>
 go_wp2_with fail;refine n.mono ?_;rintro e eA ⟨rfl,aW⟩;have b1:=hid (es aP aW);clear aW av an aD aR b3 q5 q6 aV
 cases ag:km o with
 | false=>
   have v:Hid (gd o=1):=by show _=_;rw [aZ.out,a1,ag];rfl
   go_wp2_with fail;go_ret;exact ⟨by rw [v.out];first | done | rfl,b1⟩
 | true=>
   have v:Hid (gd o=0):=by show _=_;rw [aZ.out,a1,ag];rfl
   go_wp2_with fail;go_ret;exact ⟨by rw [v.out];first | done | rfl,b1⟩
end Go.Proofs.YtndkhgakfodldaaGreatDoor

namespace Go.Proofs.YtndkhgakfodldaaGreatDoor
variable {B:List Nat} {c:Ck} {f g:eK->eK} {i:fM} {k:Nat} {s:eK} {u:ga}
def lA (i:fM) (n:Nat):Prop:=(1<=i.op/\i.op<=22)/\(0<=i.a/\i.a<=1099511627776+n)/\(0<=i.b/\i.b<=64)
theorem lA.mono {n o:Nat} (h:lA i n) (U:n<=o):lA i o:=by unfold lA at *;omega
theorem vi (p a b:Int) (h:(1<=p/\p<=22)/\(0<=a/\a<=1099511627776)/\(0<=b/\b<=64)):lA ⟨p,a,b⟩ 0:=by unfold lA;simp only;omega
def rO (us:Int) (d:Nat->Prop) (K X k:Nat) (f:gQ) (a:Int):Prop:=
 (f.kind=1/\f.m=0/\(d k\/((K:Int)<=a/\a<=X)))\/((f.kind=2\/f.kind=3)/\¬ d k/\(0<=a/\a<=2048)/\(0<=f.m/\f.m<=us))
theorem rO.mono {us:Int} {d J':Nat->Prop} {K X j:Nat} {f:gQ} {a:Int} (h:rO us d K X k f a) (l:J' k↔d k) (m:X<=j):rO us J' K j k f a:=by
 rcases h with ⟨G,J,S⟩ | ⟨G,J,S⟩
 . refine Or.inl ⟨G,J,?_⟩
   rcases S with S | S
   . exact Or.inl (l.2 S)
   . exact Or.inr (by omega)
 . exact Or.inr ⟨G,fun h=>J (l.1 h),S⟩
structure gr (us:Int) (J:Nat->Prop) (s t:eK):Prop where
 le:Ln s.code<=Ln t.code
 pre:∀ k,k<Ln s.code->t.code[k]? = s.code[k]?
 ins:∀ (k:Nat) (i:fM),Ln s.code<=k->t.code[k]? = some i->lA i (Ln t.code)
 jb:∀ k,J k->Ln s.code<=k/\k<Ln t.code
 fx:∃ e,t.fixes=s.fixes++e/\e.Pairwise (fun f g=>f.at_<g.at_)/\∀ f ∈ e,∃ (k:Nat) (i:fM),t.code[k]? = some i/\f.at_=(k:Int)/\Ln s.code<=k/\rO us J (Ln s.code) (Ln t.code) k f i.a
theorem l1 {α:Type} {l:List α} {x:α} (h:l[k]? = some x):k<Ln l:=by
 rcases iS k (Ln l) with G | G
 . exact G
 . rw [pm G] at h;cases h
section
variable {us:Int} {d J':Nat->Prop} {s t u:eK}
theorem gr.cong (h:gr us d s t) (l:∀ k,J' k↔d k):gr us J' s t:=by
 obtain rfl:J'=d:=funext fun k=>propext (l k)
 exact h
theorem gr.refl (s:eK):gr us (fun _=>False) s s:=
 ⟨eD _,fun _ _=>rfl,fun k i G J=>by have:=l1 J;omega,fun _ h=>h.elim,[],by simp,List.Pairwise.nil,fun f ag=>by cases ag⟩
theorem gr.snoc (h:gr us d s t) (i:fM) (X:lA i 0\/lA i (Ln t.code+1)) (l:∀ k,k<Ln t.code->(J' k↔d k)) (o:∀ k,J' k->Ln s.code<=k/\k<=Ln t.code) (e':List gQ)
 (c:e'=[]\/∃ f,e'=[f]/\f.at_=(Ln t.code:Int)/\rO us J' (Ln s.code) (Ln t.code+1) (Ln t.code) f i.a):gr us J' s ⟨t.code++[i],t.fixes++e'⟩:=by
 obtain ⟨e,ah,az,ag⟩:=h.fx;have a2:=h.le
 have aT:(t.code++[i]).length=Ln t.code+1:=by simp
 have m:∀ k,k<Ln t.code->(t.code++[i])[k]? = t.code[k]?:=fun k N=>mR N
 have n:(t.code++[i])[Ln t.code]? = some i:=by simp
 have j:lA i (Ln t.code+1):=by rcases X with G | G;exact G.mono (eY _);exact G
 refine ⟨by simp only [aT];omega,fun k N=>(m k (by omega)).trans (h.pre k N),fun k q N Q=>?_,fun k N=>by have:=o k N;simp only [aT];omega,e++e',by simp only [ah,tW],?_,fun f a=>?_⟩
 . simp only [aT]
   have a3:=l1 Q;rw [aT] at a3
   rcases iS k (Ln t.code) with G | G
   . exact (h.ins k q N ((m k G).symm.trans Q)).mono (by omega)
   . obtain rfl:k=Ln t.code:=by omega
     obtain rfl:i=q:=by rw [n] at Q;exact fe Q
     exact j
 . refine List.pairwise_append.2 ⟨az,?_,fun f a g af=>?_⟩
   . rcases c with rfl | ⟨f,rfl,_⟩
     . exact List.Pairwise.nil
     . exact List.pairwise_singleton ..
   . obtain ⟨k,q,Q,N,_⟩:=ag f a
     have:=l1 Q
     rcases c with rfl | ⟨b,rfl,ab,_⟩
     . cases af
     . rw [pn] at af;subst af;omega
 . rcases nN.1 a with G | G
   . obtain ⟨k,q,Q,N,Z,W⟩:=ag f G
     have a4:=l1 Q;exact ⟨k,q,(m k a4).trans Q,N,Z,W.mono (l k a4) (by simp only [aT];omega)⟩
   . rcases c with rfl | ⟨b,rfl,ab,W⟩
     . cases G
     . rw [pn] at G;subst G
       exact ⟨Ln t.code,i,n,ab,a2,by simp only [aT];exact W⟩
theorem gr.put (h:gr us d s t) (p a b:Int) (X:(1<=p/\p<=22)/\(0<=a/\a<=1099511627776)/\(0<=b/\b<=64)):gr us d s (fy p a b t):=by
 have:=h.snoc (J':=d) ⟨p,a,b⟩ (Or.inl (vi _ _ _ X)) (fun _ _=>Iff.rfl) (fun k N=>by have:=h.jb k N;omega) [] (Or.inl rfl);rw [ot] at this;exact this
theorem gr.fix (h:gr us d s t) (y m p a b:Int) (N:y=2\/y=3) (X:(1<=p/\p<=22)/\(0<=a/\a<=2048)/\(0<=b/\b<=64)) (a8:0<=m/\m<=us):gr us d s (kW y m ⟨p,a,b⟩ t):=
 h.snoc (J':=d) ⟨p,a,b⟩ (Or.inl (vi _ _ _ (by omega))) (fun _ _=>Iff.rfl) (fun k N=>by have:=h.jb k N;omega) [⟨Ln t.code,y,m⟩]
  (Or.inr ⟨_,rfl,rfl,Or.inr ⟨N,fun ac=>by have:=(h.jb _ ac).2;omega,X.2.1,a8⟩⟩)
theorem gr.jump (h:gr us d s t) (p:Int) (aa:1<=p/\p<=22):gr us (fun q=>d q\/q=Ln t.code) s (fP p 0 t):=
 h.snoc ⟨p,0,0⟩ (Or.inl (vi _ _ _ (by omega))) (fun k N=>⟨fun h=>h.elim id (fun e=>by omega),Or.inl⟩) (fun k N=>by rcases N with N | rfl;have:=h.jb k N;omega;exact ⟨h.le,eD _⟩) [⟨Ln t.code,1,0⟩]
  (Or.inr ⟨_,rfl,rfl,Or.inl ⟨rfl,rfl,Or.inl (Or.inr rfl)⟩⟩)
theorem gr.back (h:gr us d s t) (p:Int) (aa:1<=p/\p<=22):gr us d s (fP p (Ln s.code) t):=
 have a2:=h.le
 h.snoc (J':=d) ⟨p,Ln s.code,0⟩ (Or.inr (by unfold lA;simp only;omega)) (fun _ _=>Iff.rfl) (fun k N=>by have:=h.jb k N;omega) [⟨Ln t.code,1,0⟩]
  (Or.inr ⟨_,rfl,rfl,Or.inl ⟨rfl,rfl,Or.inr (by simp only;omega)⟩⟩)
theorem vj (t:eK) {j:Nat} (h:j≠k):(g8 k t).code[j]? = t.code[j]?:=by
 simp only [g8,wS];rw [show (fun a=>if k=j then nU (Ln t.code:Int) a else a)=id from funext fun a=>if_neg (fun e=>h e.symm)];simp
theorem yu (t:eK) (h:t.code[k]? = some i):(g8 k t).code[k]? = some (nU (Ln t.code) i):=by
 simp only [g8,wS,h];simp
theorem gr.land (h:gr us d s t) (N:d k):gr us (fun q=>d q/\q≠k) s (g8 k t):=by
 obtain ⟨e,ah,az,ag⟩:=h.fx;have a2:=h.le;have cb:=h.jb k N;refine ⟨by rw [gI];exact a2,fun j ac=>(vj t (by omega)).trans (h.pre j ac),fun j i ac X=>?_,fun j ac=>by rw [gI];exact h.jb j ac.1,e,ah,az,fun f a=>?_⟩
 . rw [gI]
   by_cases e:j=k
   . subst e
     have af:t.code[j]? = some t.code[j]:=gb cb.2;rw [yu t af] at X;obtain rfl:=fe X;have:=h.ins j _ ac af;unfold lA at this ⊢;simp only [nU];omega
   . rw [vj t e] at X;exact h.ins j i ac X
 . obtain ⟨j,i,X,ab,Z,W⟩:=ag f a
   rw [gI]
   by_cases e:j=k
   . subst e
     refine ⟨j,_,yu t X,ab,Z,?_⟩
     rcases W with ⟨G,J,_⟩ | ⟨_,J,_⟩
     . exact Or.inl ⟨G,J,Or.inr (by simp only [nU];omega)⟩
     . exact absurd N J
   . exact ⟨j,i,(vj t e).trans X,ab,Z,W.mono ⟨fun h=>h.1,fun h=>⟨h,e⟩⟩ (eD _)⟩
theorem gr.then (h:gr us d s t) (g:gr us (fun _=>False) t u):gr us d s u:=by
 obtain ⟨e,ah,az,ag⟩:=h.fx;obtain ⟨A,c,b,l⟩:=g.fx;have a2:=h.le;have n:=g.le;refine ⟨by omega,fun k N=>(g.pre k (by omega)).trans (h.pre k N),fun k i N X=>?_,fun k N=>by have:=h.jb k N;omega,e++A,by rw [c,ah,tW],?_,fun f a=>?_⟩
 . rcases iS k (Ln t.code) with G | G
   . exact (h.ins k i N ((g.pre k G).symm.trans X)).mono n
   . exact g.ins k i G X
 . refine List.pairwise_append.2 ⟨az,b,fun f a q Q=>?_⟩
   obtain ⟨k,i,X,ab,_⟩:=ag f a;obtain ⟨m,i',j,v,o,_⟩:=l q Q;have:=l1 X;omega
 . rcases nN.1 a with G | G
   . obtain ⟨k,i,X,ab,Z,W⟩:=ag f G
     exact ⟨k,i,(g.pre k (l1 X)).trans X,ab,Z,W.mono Iff.rfl n⟩
   . obtain ⟨k,i,X,ab,Z,W⟩:=l f G
     refine ⟨k,i,X,ab,by omega,?_⟩
     rcases W with ⟨G,J,S⟩ | ⟨G,J,S⟩
     . exact Or.inl ⟨G,J,Or.inr (by rcases S with S | S;exact S.elim;omega)⟩
     . exact Or.inr ⟨G,fun ac=>by have:=(h.jb k ac).2;omega,S⟩
end
def hW (us:Int) (f:eK->eK):Prop:=∀ s,gr us (fun _=>False) s (f s)
theorem s1 {us:Int} {f:eH->eK->eK}:∀ {K:List eH},(∀ o ∈ K,hW us (f o))->hW us (g9 f K)
 | [],_,s=>gr.refl s
 | q :: O,h,s=>(h q (gV ..) s).then (s1 (fun o z=>h o (gC _ z)) (f q s))
theorem s2 {us:Int} {f:eB->eK->eK}:∀ {K:List eB},(∀ o ∈ K,hW us (f o))->hW us (fZ f K)
 | [],_,s=>gr.refl s
 | q :: O,h,s=>by
   show gr us _ s (fZ f O (if kX s=true then s else f q s));have J:=s2 (l:=O) (fun o z=>h o (gC _ z));split
   . exact J s
   . exact (h q (gV ..) s).then (J _)
theorem C0 {us:Int} (ag:hW us f) (af:hW us g):hW us (nk f g):=fun s=>by
 have S:=((ag s).jump 12 (by decide)).then (af _);have a2:=(af (fP 12 0 (f s))).le;rw [gR] at a2;have ap:=(S.put 22 0 0 (by decide)).jump 11 (by decide);have ah:=(ap.land (k:=(f s).code.length) (Or.inl (Or.inr rfl))).put 1 0 0 (by decide);have q:=ah.land (k:=(fy 22 0 0 (g (fP 12 0 (f s)))).code.length) ⟨Or.inr rfl,by rw [fR];omega⟩;exact q.cong (fun k=>⟨False.elim,fun h=>by simp only [false_or] at h;omega⟩)
theorem C1 {us:Int} (ag:hW us f) (af:hW us g):hW us (nn f g):=fun s=>by
 have ap:=(((ag s).jump 12 (by decide)).put 1 1 0 (by decide)).jump 11 (by decide);have aw:=ap.land (k:=(f s).code.length) (Or.inl (Or.inr rfl));have ah:=(aw.then (af _)).put 22 0 0 (by decide);have q:=ah.land (k:=(fy 1 1 0 (fP 12 0 (f s))).code.length) ⟨Or.inr rfl,by rw [fR,gR];omega⟩;exact q.cong (fun k=>⟨False.elim,fun h=>by simp only [false_or] at h;omega⟩)
theorem C2 {us:Int} {h:eK->eK} (ag:hW us f) (af:hW us g) (m:hW us h) (e:Bool):hW us (oQ f g h e):=fun s=>by
 have S:=((ag s).jump 12 (by decide)).then (af _);have a2:=(af (fP 12 0 (f s))).le;rw [gR] at a2;unfold oQ;simp only;split
 . exact (S.land (k:=(f s).code.length) (Or.inr rfl)).cong (fun k=>⟨False.elim,fun h=>by simp only [false_or] at h;omega⟩)
 . have ap:=(S.jump 11 (by decide)).land (k:=(f s).code.length) (Or.inl (Or.inr rfl))
   have q:=(ap.then (m _)).land (k:=(g (fP 12 0 (f s))).code.length) ⟨Or.inr rfl,by omega⟩;exact q.cong (fun k=>⟨False.elim,fun h=>by simp only [false_or] at h;omega⟩)
theorem C3 {us:Int} (ag:hW us f) (af:hW us g):hW us (qM f g):=fun s=>by
 have S:=((((ag s).jump 12 (by decide)).put 16 0 0 (by decide)).then (af _)).back 11 (by decide);exact (S.land (k:=(f s).code.length) (Or.inr rfl)).cong (fun k=>⟨False.elim,fun h=>by simp only [false_or] at h;omega⟩)
structure s3 (c:Ck):Prop where
 hn:∀ m at_ n:Int,1<=n->numB c m at_ n=true->(0<=at_/\at_<=2048)/\(0<=m/\m<=c.uses)
 hp:∀ m at_ k:Int,ip c m at_ k=true->(0<=at_/\at_<=2048)/\(0<=m/\m<=c.uses)
 hl:c.locals<=64
theorem C4 (a1:s3 c):∀ (k:Nat) (q:eH),fI c q=true->gW c k q.args=true->hW c.uses (eN (k+1) q):=by
 have b:∀ (k:Nat) (q:eH),fI c q=true->(∀ o ∈ q.args,hW c.uses (eN k o))->hW c.uses (eN (k+1) q):=by
  intro k q Q ay s;obtain ⟨p,n,m,g,d⟩:=q
  have aT:∀ i,hW c.uses (eN k (eM d i)):=fun i s=>by
   by_cases X:i<Ln d
   . rw [rI _ _ X];exact ay _ (fO X) s
   . have:eM d i=xX:=by simp [eM,lJ,pm (Nat.le_of_not_lt X)]
     rw [this]
     cases k with
     | zero=>exact gr.refl s
     | succ k=>exact (gr.refl s).put 10 0 0 (by decide)
  rw [x0];unfold uT
  by_cases aw:p=1
  . subst aw
    have a3:(decide (Ln d=0)&&(decide (0<=n/\n<=1099511627775)&&(decide (m=0)&&decide (g=0))))=true:=Q;simp only [fs,decide_eq_true_eq] at a3;rw [if_pos rfl];exact (gr.refl s).put _ _ _ (by omega)
  rw [if_neg aw]
  by_cases aE:p=2
  . rw [if_pos aE];exact (gr.refl s).put _ _ _ (by decide)
  rw [if_neg aE]
  by_cases b4:p=16
  . subst b4
    have:=a1.hl;have a3:(decide (Ln d=0)&&(decide (n=0)&&(decide (m=0)&&mF c g)))=true:=Q;simp only [mF,fs,decide_eq_true_eq] at a3;rw [if_pos rfl];exact (gr.refl s).put _ _ _ (by omega)
  rw [if_neg b4]
  by_cases b8:p=3
  . subst b8
    have a3:(decide (Ln d=0)&&(decide (n=0)&&numB c m g 1))=true:=Q;simp only [fs] at a3;rw [if_pos rfl];have:=a1.hn _ _ _ (by decide) a3.2.2;exact (gr.refl s).fix _ _ _ _ _ (Or.inr rfl) (by omega) this.2
  rw [if_neg b8]
  by_cases u:p=4
  . subst u
    have a3:(decide (Ln d=1)&&(decide (1<=n/\n<=32)&&numB c m g n))=true:=Q;simp only [fs,decide_eq_true_eq] at a3;rw [if_pos rfl];have:=a1.hn _ _ _ a3.2.1.1 a3.2.2;exact ((aT 0 s).fix _ _ _ _ _ (Or.inr rfl) (by omega) this.2).put _ _ _ (by decide)
  rw [if_neg u]
  by_cases aP:p=5
  . subst aP
    have a3:(decide (n=0)&&ip c m g (Ln d))=true:=Q;simp only [fs] at a3;rw [if_pos rfl];have:=a1.hp _ _ _ a3.2;exact (s1 ay s).fix _ _ _ _ _ (Or.inl rfl) (by omega) this.2
  rw [if_neg aP];have a2:=x6 Q aw b4 b8 u aP
  by_cases a:p=6
  . rw [if_pos a];exact (aT 0 s).put _ _ _ (by decide)
  rw [if_neg a]
  by_cases e:p=7
  . rw [if_pos e];exact C0 (aT 0) (aT 1) s
  rw [if_neg e]
  by_cases f:p=8
  . rw [if_pos f];exact C1 (aT 0) (aT 1) s
  rw [if_neg f];refine (s1 ay s).put _ _ _ ?_;unfold lr at a2;rw [if_neg aE,if_neg a] at a2
  split at a2<;>omega
 intro k
 induction k with
 | zero=>intro q G J;exact b 0 q G (fun o z s=>gr.refl s)
 | succ k aH=>
   intro q G J;refine b (k+1) q G (fun o z=>?_);rw [show gW c (k+1) q.args=q.args.all (fun q=>fI c q&&gW c k q.args) from rfl,hJ] at J;have a6:=J o z;rw [fs] at a6;exact aH o a6.1 a6.2
theorem vk (a1:s3 c):∀ (k:Nat) (K:List eB),gw c k K=true->∀ o ∈ K,hW c.uses (gB k o)
 | 0,K,h=>by simp [gw] at h
 | k + 1,K,h=>fun o z s=>by
   obtain ⟨G,J,S,a6⟩:=Cy h z;obtain ⟨p,n,m,g,d,U,N⟩:=o;obtain ⟨⟨I,v⟩,t,j⟩:=x8 G;simp only [eB.args,eB.body,eB.other] at J S a6
   have ay:∀ z ∈ d,hW c.uses (eN 6 z):=fun z aS=>by
    rw [show gW c 6 d=d.all (fun q=>fI c q&&gW c 5 q.args) from rfl,hJ] at J;have ap:=J z aS;rw [fs] at ap;exact C4 a1 5 z ap.1 ap.2
   have aT:∀ i,i<Ln d->hW c.uses (eN 6 (eM d i)):=fun i X=>by
    rw [rI _ _ X];exact ay _ (fO X)
   have nil:∀ (R:List eB),Ln R=0->hW c.uses (fZ (gB k) R):=fun R Q s=>by
    rw [ii Q];exact gr.refl s
   have ab:hW c.uses (fZ (gB k) U):=by
    rcases S with S | S
    . exact s2 (vk a1 k _ S)
    . exact nil _ S
   have aQ:hW c.uses (fZ (gB k) N):=by
    rcases a6 with a6 | a6
    . exact s2 (vk a1 k _ a6)
    . exact nil _ a6
   rw [x7];unfold uU
   by_cases b4:p=3
   . subst b4
     have aa:(decide (n=0)&&ip c m g (Ln d))=true:=G;simp only [fs] at aa;have:=a1.hp _ _ _ aa.2;simp only [show ¬ ((3:Int)=1) from by decide,show ¬ ((3:Int)=2) from by decide,if_true,if_false];exact ((s1 ay s).fix _ _ _ _ _ (Or.inl rfl) (by omega) this.2).put _ _ _ (by decide)
   have bq:0<Ln d:=by
    by_cases aE:p=2
    . have:=t aE;omega
    . have:=j aE b4;omega
   have a3:=aT 0 bq
   by_cases aw:p=1
   . subst aw
     have aa:(decide (Ln d=1)&&(decide (n=0)&&(if m = -1 then mF c g else numB c m g 1)))=true:=G;rw [fs,fs] at aa;have ap:=aa.2.2;rw [if_pos rfl];unfold pJ;split
     . rename_i l
       rw [if_pos l] at ap;have:=a1.hl;simp only [mF,decide_eq_true_eq] at ap;exact (a3 s).put _ _ _ (by omega)
     . rename_i l
       rw [if_neg l] at ap;have:=a1.hn _ _ _ (by decide) ap;exact (a3 s).fix _ _ _ _ _ (Or.inr rfl) (by omega) this.2
   rw [if_neg aw]
   by_cases aE:p=2
   . subst aE
     have ah:=aT 1 (by have:=t rfl;omega);have aa:(decide (Ln d=2)&&(decide (1<=n/\n<=32)&&numB c m g n))=true:=G;simp only [fs,decide_eq_true_eq] at aa;have:=a1.hn _ _ _ aa.2.1.1 aa.2.2;rw [if_pos rfl];exact (((a3 s).fix _ _ _ _ _ (Or.inr rfl) (by omega) this.2).then (ah _)).put _ _ _ (by decide)
   rw [if_neg aE,if_neg b4]
   by_cases b8:p=4
   . rw [if_pos b8];exact C2 a3 ab aQ _ s
   rw [if_neg b8]
   by_cases u:p=5
   . rw [if_pos u];exact C3 a3 ab s
   rw [if_neg u]
   by_cases aP:p=6
   . rw [if_pos aP];exact (a3 s).put _ _ _ (by decide)
   rw [if_neg aP]
   by_cases a:p=7
   . rw [if_pos a];exact (a3 s).put _ _ _ (by decide)
   rw [if_neg a];exact gr.refl s
theorem yv (a1:s3 c) (p:gO) (h:gw c 6 p.body=true) (az:jJ p=true) (s:eK):∃ t,gr c.uses (fun _=>False) s t/\Ln s.code<Ln t.code/\oR p s=fy 15 0 0 (fy 1 0 0 t):=by
 unfold jJ at az;simp only [fs,decide_eq_true_eq] at az;have G:=(gr.refl (us:=c.uses) s).put 14 p.params p.locals (by omega);have J:=s2 (vk a1 6 p.body h) (fy 14 p.params p.locals s);have:=J.le;rw [fR] at this;exact ⟨_,G.then J,by omega,rfl⟩
def mM (B:List Nat) (s:eK):Prop:=(∀ V ∈ B,V<=Ln s.code)/\∀ f ∈ s.fixes,f.kind=1->∃ (k:Nat) (i:fM),s.code[k]? = some i/\f.at_=(k:Int)/\i.a<Ln s.code/\∀ V ∈ B,(k<V->i.a<V)/\(V<=k->(V:Int)<=i.a)
theorem mM.mem {B':List Nat} (h:mM B s) (ab:∀ V ∈ B',V ∈ B):mM B' s:=
 ⟨fun V F=>h.1 V (ab V F),fun f ag N=>by
  obtain ⟨k,i,G,J,S,a6⟩:=h.2 f ag N
  exact ⟨k,i,G,J,S,fun V F=>a6 V (ab V F)⟩⟩
theorem mM.more (h:mM B s):mM (Ln s.code :: B) s:=by
 refine ⟨fun V F=>?_,fun f ag N=>?_⟩
 . rcases lM.1 F with rfl | F
   . exact eD _
   . exact h.1 V F
 . obtain ⟨k,i,G,J,S,a6⟩:=h.2 f ag N
   refine ⟨k,i,G,J,S,fun V F=>?_⟩
   rcases lM.1 F with rfl | F
   . have:=l1 G
     exact ⟨fun _=>S,fun h=>by omega⟩
   . exact a6 V F
theorem mM.body {us:Int} {t:eK} (h:mM B s) (ab:gr us (fun _=>False) s t):mM B (fy 15 0 0 (fy 1 0 0 t)):=by
 obtain ⟨e,ah,_,ag⟩:=ab.fx;have a2:=ab.le
 have g:(fy 15 0 0 (fy 1 0 0 t)).code.length=Ln t.code+2:=by rw [fR,fR]
 have m:∀ k,k<Ln t.code->(fy 15 0 0 (fy 1 0 0 t)).code[k]? = t.code[k]?:=fun k N=>by
  simp only [fy];rw [mR (by simp;omega),mR N]
 refine ⟨fun V F=>by have:=h.1 V F;rw [g];omega,fun f a N=>?_⟩
 have c:f ∈ s.fixes++e:=by rw [← ah];exact a
 rw [g]
 rcases nN.1 c with G | G
 . obtain ⟨k,i,G,J,S,a6⟩:=h.2 f G N
   have b:=l1 G;exact ⟨k,i,(m k (by omega)).trans ((ab.pre k b).trans G),J,by omega,a6⟩
 . obtain ⟨k,i,G,J,S,a6⟩:=ag f G
   refine ⟨k,i,(m k (l1 G)).trans G,J,?_,fun V F=>?_⟩
   all_goals rcases a6 with ⟨_,_,ap | ap⟩ | ⟨ap,_⟩
   . exact ap.elim
   . omega
   . omega
   . exact ap.elim
   . have:=h.1 V F
     exact ⟨fun _=>by omega,fun _=>by omega⟩
   . omega
theorem yw (h:ie u=true) (l:Int) (a2:l<=64):s3 (hT u ig hU l):=by
 have aw:=uY h;have ez:=xH h;refine ⟨fun m g n U h=>?_,fun m g k h=>?_,a2⟩
 . unfold numB at h
   split at h
   . rename_i e
     have h:0<=g/\g+n<=u.data:=of_decide_eq_true h;subst e;exact ⟨by omega,by omega,by simp only [hT];omega⟩
   . rw [fs] at h
     obtain ⟨G,J⟩:=h;have G:1<=m/\m<=Ln u.uses:=of_decide_eq_true G;have J:ig m g n=true:=J;simp only [ig,w3,nQ,decide_eq_true_eq] at J;exact ⟨by omega,by omega,by simp only [hT];omega⟩
 . unfold ip at h
   split at h
   . rename_i e
     have h:lq u.parts g k=true:=h;unfold lq at h;rw [fs,decide_eq_true_eq] at h;obtain ⟨G,J⟩:=h
     cases Q:u.parts[g.toNat]? with
     | none=>rw [Q] at J;cases J
     | some y=>
       have:=l1 Q;subst e;exact ⟨by omega,by omega,by simp only [hT];omega⟩
   . rw [fs] at h
     obtain ⟨G,J⟩:=h;have G:1<=m/\m<=Ln u.uses:=of_decide_eq_true G;have J:hU m g k=true:=J;simp only [hU,fs,decide_eq_true_eq] at J;exact ⟨by omega,by omega,by simp only [hT];omega⟩
def pW (l:List gO) (j:Nat):List Nat:=(List.range j).map (fun i=>(ir (l.take i)).code.length)
theorem yx (h:ji u ig hU=true):∀ j,j<=Ln u.parts->gr (Ln u.uses) (fun _=>False) sX (ir (u.parts.take j))/\mM (pW u.parts j) (ir (u.parts.take j))
 | 0,_=>⟨gr.refl _,fun V F=>by simp [pW] at F,fun f ag=>by cases ag⟩
 | j + 1,ac=>by
   obtain ⟨G,J⟩:=yx h j (by omega);obtain ⟨az,_,m⟩:=oU h
   have a:jJ u.parts[j]=true:=by
    unfold ie at m;simp only [fs,hJ] at m;exact m.2.1 _ (fO (by omega))
   have cy:u.parts[j].params+u.parts[j].locals<=64:=by
    have:=a;unfold jJ at this;simp only [fs,decide_eq_true_eq] at this;omega
   obtain ⟨t,ab,_,F⟩:=yv (yw m _ cy) u.parts[j] (az _ (fO (by omega))) a (ir (u.parts.take j));rw [yb _ _ (by omega),F];refine ⟨((G.then ab).put 1 0 0 (by decide)).put 15 0 0 (by decide),(J.more.body ab).mem (fun V F=>?_)⟩;unfold pW at F;rw [sx,mq,nN] at F
   rcases F with F | F
   . exact gC _ F
   . simp only [oy,sy,pn] at F
     subst F;exact gV ..
theorem C5 (h:ji u ig hU=true):gr (Ln u.uses) (fun _=>False) sX (iN u)/\mM ((ir u.parts).code.length :: pW u.parts (Ln u.parts)) (iN u)/\(ir u.parts).code.length<(iN u).code.length/\∀ V ∈ pW u.parts (Ln u.parts),V<=(ir u.parts).code.length:=by
 obtain ⟨G,J⟩:=yx h _ (eD _);rw [iA] at G J;obtain ⟨_,a8,m⟩:=oU h;obtain ⟨t,ab,a2,F⟩:=yv (yw m 0 (by decide)) ⟨0,0,u.main⟩ a8 rfl (ir u.parts);unfold iN;rw [F];refine ⟨((G.then ab).put 1 0 0 (by decide)).put 15 0 0 (by decide),J.more.body ab,?_,J.1⟩;rw [fR,fR];omega
theorem C6 (l:List gO):uX l=(pW l (Ln l)).map (fun n:Nat=>(n:Int)):=by
 unfold uX pW;rw [List.map_map]
 rfl
end Go.Proofs.YtndkhgakfodldaaGreatDoor

namespace Go.Proofs.YtndkhgakfodldaaGreatDoor
open Go.RowKit
structure Sw where
 data:List Int
 inp:List Int
 out:List Int
 ticks:Nat
 calls:Nat
inductive Rr (α:Type) where
 | ok (a:α) (s:Sw)
 | stop (e:Int) (s:Sw)
def Rr.bind {α l:Type}:Rr α->(α->Sw->Rr l)->Rr l
 | .ok a s,f=>f a s
 | .stop e s,_=>.stop e s
structure Cx where
 us:List ga
 near:List (List Nat)
 beg:List Int
 lim:Nat
structure Fr where
 loc:List Int
 ret:Int
def l2 (j:Nat) (s:Sw):Rr Unit:=if s.ticks=j then .stop 3 s else .ok () { s with ticks:=s.ticks+1 }
def nY (s:Sw):Rr Int:=match s.inp with
 | []=>.ok 0 s
 | q :: O=>.ok q { s with inp:=O }
def pY (n:Int) (s:Sw):Rr Unit:=if (Ln s.out)=200 then .stop 5 s else .ok () { s with out:=s.out++[n] }
def vm (a8:Cx) (u:Nat) (m:Int):Nat:=(a8.near.getD u []).getD m.toNat 0
def qQ (a8:Cx) (u:Nat) (m g:Int):Int:=a8.beg.getD (vm a8 u m) 0+g
def rP (b:Bool):Int:=if b=true then 1 else 0
def yy (p a b:Int):Option Int:=
 if p=9 then some (wrap64 (a+b))
 else if p=10 then some (wrap64 (a - b))
 else if p=11 then some (wrap64 (a*b))
 else if p=14 then some (rP (a == b))
 else if p=15 then some (rP (decide (a<b)))
 else if b=0 then none
 else if p=12 then some (wrap64 (Int.tdiv a b))
 else if p=13 then some (Int.tmod a b)
 else none
def iZ (f:eH->Sw->Rr Int):List eH->Sw->Rr (List Int)
 | [],s=>.ok [] s
 | q :: O,s=>(f q s).bind fun v s=>(iZ f O s).bind fun p s=>.ok (v :: p) s
def s4 (f:Sw->Rr Int) (p n:Int) (s:Sw):Rr Int:=(f s).bind fun i s=>if i<0\/n<=i then .stop 2 s else .ok (p+i) s
abbrev nu:=Nat->List eB->List Int->Sw->Rr Int
def vp (a8:Cx) (u:Nat) (m g:Int):gO:=match a8.us[vm a8 u m]? with
 | some q=>q.parts.getD g.toNat ⟨0,0,[]⟩
 | none=>⟨0,0,[]⟩
def oX (p:List Int) (n:Int):List Int:=p++List.replicate (n.toNat - Ln p) 0
def ta (E:nu) (a8:Cx) (u:Nat) (f:eH->Sw->Rr Int) (m g:Int) (d:List eH) (s:Sw):Rr Int:=
 (iZ f d s).bind fun p s=>E (vm a8 u m) (vp a8 u m g).body (oX p ((vp a8 u m g).params+(vp a8 u m g).locals)) s
def jv (E:nu) (a8:Cx) (u:Nat) (t:List Int):Nat->eH->Sw->Rr Int
 | 0,_,s=>.ok 0 s
 | k+1,q,s=>
   if q.op=1 then .ok q.n s
   else if q.op=2 then nY s
   else if q.op=16 then .ok (t.getD q.at_.toNat 0) s
   else if q.op=3 then .ok (s.data.getD (qQ a8 u q.m q.at_).toNat 0) s
   else if q.op=4 then (s4 (jv E a8 u t k (eM q.args 0)) (qQ a8 u q.m q.at_) q.n s).bind fun y s=>.ok (s.data.getD y.toNat 0) s
   else if q.op=5 then ta E a8 u (jv E a8 u t k) q.m q.at_ q.args s
   else if q.op=6 then (jv E a8 u t k (eM q.args 0) s).bind fun v s=>.ok (rP (decide (v=0))) s
   else if q.op=7 then (jv E a8 u t k (eM q.args 0) s).bind fun v s=>if v=0 then .ok 0 s else (jv E a8 u t k (eM q.args 1) s).bind fun v s=>.ok (rP (decide (v≠0))) s
   else if q.op=8 then (jv E a8 u t k (eM q.args 0) s).bind fun v s=>if v=0 then (jv E a8 u t k (eM q.args 1) s).bind fun v s=>.ok (rP (decide (v≠0))) s else .ok 1 s
   else (jv E a8 u t k (eM q.args 0) s).bind fun a s=>(jv E a8 u t k (eM q.args 1) s).bind fun V s=>match yy q.op a V with
    | some n=>.ok n s
    | none=>.stop 1 s
def lC (f:eB->Fr->Sw->Rr (Bool × Fr)):List eB->Fr->Sw->Rr (Bool × Fr)
 | [],c,s=>.ok (false,c) s
 | a :: O,c,s=>(f a c s).bind fun o s=>if o.1=true then .ok (true,o.2) s else lC f O o.2 s
abbrev rQ:=Nat->eH->List eB->Fr->Sw->Rr (Bool × Fr)
def l5 (E:nu) (L:rQ) (a8:Cx) (u:Nat):Nat->eB->Fr->Sw->Rr (Bool × Fr)
 | 0,_,c,s=>.ok (false,c) s
 | k+1,a,c,s=>
   if a.op=1 then (jv E a8 u c.loc 6 (eM a.args 0) s).bind fun v s=>if a.m = -1 then .ok (false,{ c with loc:=c.loc.set a.at_.toNat v }) s else .ok (false,c) { s with data:=s.data.set (qQ a8 u a.m a.at_).toNat v }
   else if a.op=2 then (s4 (jv E a8 u c.loc 6 (eM a.args 0)) (qQ a8 u a.m a.at_) a.n s).bind fun y s=>(jv E a8 u c.loc 6 (eM a.args 1) s).bind fun v s=>.ok (false,c) { s with data:=s.data.set y.toNat v }
   else if a.op=3 then (ta E a8 u (jv E a8 u c.loc 6) a.m a.at_ a.args s).bind fun _ s=>.ok (false,c) s
   else if a.op=4 then (jv E a8 u c.loc 6 (eM a.args 0) s).bind fun v s=>if v=0 then lC (l5 E L a8 u k) a.other c s else lC (l5 E L a8 u k) a.body c s
   else if a.op=5 then L u (eM a.args 0) a.body c s
   else if a.op=6 then (jv E a8 u c.loc 6 (eM a.args 0) s).bind fun v s=>.ok (true,{ c with ret:=v }) s
   else if a.op=7 then (jv E a8 u c.loc 6 (eM a.args 0) s).bind fun v s=>(pY v s).bind fun _ s=>.ok (false,c) s
   else .ok (false,c) s
structure Lv where
 ent:nu
 whl:rQ
def C7 (O:Lv) (a8:Cx) (u:Nat) (U:List eB) (t:List Int) (s:Sw):Rr Int:=
 (lC (l5 O.ent O.whl a8 u 6) U ⟨t,0⟩ { s with calls:=s.calls+1 }).bind fun o s=>.ok o.2.ret { s with calls:=s.calls - 1 }
def l8 (O:Lv) (a8:Cx):nu:=fun u U t s=>(l2 a8.lim s).bind fun _ s=>if s.calls=24 then .stop 4 s else C7 O a8 u U t s
def pZ (O:Lv) (a8:Cx) (E:nu):rQ:=fun u q U c s=>
 (jv E a8 u c.loc 6 q s).bind fun v s=>if v=0 then .ok (false,c) s else
   (l2 a8.lim s).bind fun _ s=>(lC (l5 O.ent O.whl a8 u 6) U c s).bind fun o s=>if o.1=true then .ok (true,o.2) s else O.whl u q U o.2 s
def tb:Lv:=⟨fun _ _ _ s=>.stop 3 s,fun _ _ _ _ s=>.stop 3 s⟩
def lv (a8:Cx):Nat->Lv
 | 0=>⟨l8 tb a8,pZ tb a8 (l8 tb a8)⟩
 | t+1=>⟨l8 (lv a8 t) a8,pZ (lv a8 t) a8 (l8 (lv a8 t) a8)⟩
structure Rs where
 end_:Int
 out:List Int
 data:List Int
 ticks:Nat
end Go.Proofs.YtndkhgakfodldaaGreatDoor

namespace Go.Proofs.YtndkhgakfodldaaGreatDoor
variable {p n:Nat} {α:Type}
structure p0 (lim lim':Nat) where
 Sm:Nat->(α:Type)->(Sw->Rr α)->(Sw->Rr α)->Prop
 ok:∀ n α (a:α),Sm n α (fun s=>.ok a s) (fun s=>.ok a s)
 stop:∀ n α (e:Int),e≠3->Sm n α (fun s=>.stop e s) (fun s=>.stop e s)
 bind:∀ n α β (F F':Sw->Rr α) (f f':α->Sw->Rr β),Sm n α F F'->(∀ a,Sm n β (f a) (f' a))->Sm n β (fun s=>(F s).bind f) (fun s=>(F' s).bind f')
 tick:∀ n α (F F':Sw->Rr α),Sm n α F F'->Sm (n+1) α (fun s=>(l2 lim s).bind fun _ s=>F s) (fun s=>(l2 lim' s).bind fun _ s=>F' s)
 next:∀ n,Sm n Int nY nY
 tell:∀ n v,Sm n Unit (pY v) (pY v)
 get:∀ n α (g:List Int->α),Sm n α (fun s=>.ok (g s.data) s) (fun s=>.ok (g s.data) s)
 set:∀ n α (i:Nat) (v:Int) (a:α),Sm n α (fun s=>.ok a { s with data:=s.data.set i v }) (fun s=>.ok a { s with data:=s.data.set i v })
 dip:∀ n α β (F F':Sw->Rr α) (g:α->β),Sm n α F F'->Sm n β (fun s=>if s.calls=24 then .stop 4 s else (F { s with calls:=s.calls+1 }).bind fun a s=>.ok (g a) { s with calls:=s.calls - 1 }) (fun s=>if s.calls=24 then .stop 4 s else (F' { s with calls:=s.calls+1 }).bind fun a s=>.ok (g a) { s with calls:=s.calls - 1 })
section
variable {j p:Nat} (d:p0 j p) {n:Nat}
theorem p0.pick {l c g a:Sw->Rr α} (p:Prop) [Decidable p] (br:d.Sm n α l c) (A:d.Sm n α g a):d.Sm n α (fun s=>if p then l s else g s) (fun s=>if p then c s else a s):=by
 by_cases h:p
 . simp only [if_pos h];exact br
 . simp only [if_neg h];exact A
theorem yA {f b:eH->Sw->Rr Int} (h:∀ q,d.Sm n Int (f q) (b q)):∀ K,d.Sm n (List Int) (iZ f K) (iZ b K)
 | []=>d.ok n _ []
 | q :: O=>d.bind n _ _ _ _ _ _ (h q) (fun v=>d.bind n _ _ _ _ _ _ (yA h O) (fun p=>d.ok n _ (v :: p)))
theorem yB {f b:Sw->Rr Int} (h:d.Sm n Int f b) (p m:Int):d.Sm n Int (s4 f p m) (s4 b p m):=
 d.bind n _ _ _ _ _ _ h (fun i=>d.pick (i<0\/m<=i) (d.stop n _ 2 (by decide)) (d.ok n _ (p+i)))
variable {E w:nu} (B:∀ u V K,d.Sm n Int (E u V K) (w u V K)) (a8:Cx) (j:Nat)
include B
theorem yC (u:Nat) {f b:eH->Sw->Rr Int} (h:∀ q,d.Sm n Int (f q) (b q)) (m g:Int) (l:List eH):d.Sm n Int (ta E a8 u f m g l) (ta w { a8 with lim:=j } u b m g l):=
 d.bind n _ _ _ _ _ _ (yA d h l) (fun p=>B _ _ _)
theorem vq (u:Nat) (t:List Int):∀ k q,d.Sm n Int (jv E a8 u t k q) (jv w { a8 with lim:=j } u t k q)
 | 0,q=>d.ok n _ 0
 | k + 1,q=>by
   have aH:=vq u t k;refine d.pick (q.op=1) (d.ok n _ q.n) (d.pick (q.op=2) (d.next n) (d.pick (q.op=16) (d.ok n _ _) (d.pick (q.op=3) (d.get n _ fun o=>o.getD (qQ a8 u q.m q.at_).toNat 0) (d.pick (q.op=4) ?_ (d.pick (q.op=5) (yC d B a8 j u aH q.m q.at_ q.args) (d.pick (q.op=6) ?_ (d.pick (q.op=7) ?_ (d.pick (q.op=8) ?_ ?_))))))))
   . exact d.bind n _ _ _ _ _ _ (yB d (aH (eM q.args 0)) _ _) (fun y=>d.get n _ fun o=>o.getD y.toNat 0)
   . exact d.bind n _ _ _ _ _ _ (aH (eM q.args 0)) (fun v=>d.ok n _ _)
   . exact d.bind n _ _ _ _ _ _ (aH (eM q.args 0)) (fun v=>d.pick (v=0) (d.ok n _ 0) (d.bind n _ _ _ _ _ _ (aH (eM q.args 1)) (fun v=>d.ok n _ _)))
   . exact d.bind n _ _ _ _ _ _ (aH (eM q.args 0)) (fun v=>d.pick (v=0) (d.bind n _ _ _ _ _ _ (aH (eM q.args 1)) (fun v=>d.ok n _ _)) (d.ok n _ 1))
   . refine d.bind n _ _ _ _ _ _ (aH (eM q.args 0)) (fun a=>d.bind n _ _ _ _ _ _ (aH (eM q.args 1)) (fun V=>?_))
     cases yy q.op a V with
     | none=>exact d.stop n _ 1 (by decide)
     | some v=>exact d.ok n _ v
omit B in
theorem qR {f b:eB->Fr->Sw->Rr (Bool × Fr)} (h:∀ a c,d.Sm n _ (f a c) (b a c)):∀ K c,d.Sm n _ (lC f K c) (lC b K c)
 | [],c=>d.ok n _ (false,c)
 | a :: O,c=>d.bind n _ _ _ _ _ _ (h a c) (fun o=>d.pick (o.1=true) (d.ok n _ (true,o.2)) (qR h O o.2))
theorem tc {L b:rQ} (am:∀ u q V c,d.Sm n _ (L u q V c) (b u q V c)) (u:Nat):∀ k a c,d.Sm n _ (l5 E L a8 u k a c) (l5 w b { a8 with lim:=j } u k a c)
 | 0,a,c=>d.ok n _ (false,c)
 | k+1,a,c=>by
   have aH:=tc am u k;have a7:=vq d B a8 j u c.loc 6;refine d.pick (a.op=1) ?_ (d.pick (a.op=2) ?_ (d.pick (a.op=3) ?_ (d.pick (a.op=4) ?_ (d.pick (a.op=5) (am u _ _ c) (d.pick (a.op=6) ?_ (d.pick (a.op=7) ?_ (d.ok n _ (false,c))))))))
   . exact d.bind n _ _ _ _ _ _ (a7 (eM a.args 0)) (fun v=>d.pick (a.m = -1) (d.ok n _ _) (d.set n _ (qQ a8 u a.m a.at_).toNat v (false,c)))
   . exact d.bind n _ _ _ _ _ _ (yB d (a7 (eM a.args 0)) _ _) (fun y=>d.bind n _ _ _ _ _ _ (a7 (eM a.args 1)) (fun v=>d.set n _ y.toNat v (false,c)))
   . exact d.bind n _ _ _ _ _ _ (yC d B a8 j u a7 a.m a.at_ a.args) (fun _=>d.ok n _ (false,c))
   . exact d.bind n _ _ _ _ _ _ (a7 (eM a.args 0)) (fun v=>d.pick (v=0) (qR d aH a.other c) (qR d aH a.body c))
   . exact d.bind n _ _ _ _ _ _ (a7 (eM a.args 0)) (fun v=>d.ok n _ _)
   . exact d.bind n _ _ _ _ _ _ (a7 (eM a.args 0)) (fun v=>d.bind n _ _ _ _ _ _ (d.tell n v) (fun _=>d.ok n _ (false,c)))
end
structure rR {lim lim':Nat} (I:p0 lim lim') (n:Nat) (r r':Lv):Prop where
 ent:∀ u b l,I.Sm n Int (r.ent u b l) (r'.ent u b l)
 whl:∀ u x b c,I.Sm n _ (r.whl u x b c) (r'.whl u x b c)
theorem yD {j:Nat} (d:p0 j p) {O e:Lv} (h:rR d n O e) (a8:Cx) (a1:a8.lim=j) (u:Nat) (b:List eB) (l:List Int):d.Sm (n+1) Int (l8 O a8 u b l) (l8 e { a8 with lim:=p } u b l):=by
 subst a1;exact d.tick n _ _ _ (d.dip n _ _ (lC (l5 O.ent O.whl a8 u 6) b ⟨l,0⟩) (lC (l5 e.ent e.whl { a8 with lim:=p } u 6) b ⟨l,0⟩) (fun o=>o.2.ret) (qR d (tc d h.ent a8 p h.whl u 6) b ⟨l,0⟩))
theorem C8 {j:Nat} (d:p0 j p) {O e:Lv} (h:rR d n O e) (a8:Cx) (a1:a8.lim=j) {E w:nu} (B:∀ u b K,d.Sm (n+1) Int (E u b K) (w u b K)) (u:Nat) (x:eH) (b:List eB) (c:Fr):d.Sm (n+1) _ (pZ O a8 E u x b c) (pZ e { a8 with lim:=p } w u x b c):=by
 subst a1;refine d.bind (n+1) _ _ _ _ _ _ (vq d B a8 p u c.loc 6 x) (fun v=>d.pick (v=0) (d.ok _ _ (false,c)) (d.tick n _ _ _ ?_));exact d.bind n _ _ _ _ _ _ (qR d (tc d h.ent a8 p h.whl u 6) b c) (fun o=>d.pick (o.1=true) (d.ok n _ (true,o.2)) (h.whl u x b o.2))
theorem C9 {j:Nat} (d:p0 j p) {O e:Lv} (h:rR d n O e) (a8:Cx) (a1:a8.lim=j):rR d (n+1) ⟨l8 O a8,pZ O a8 (l8 O a8)⟩ ⟨l8 e { a8 with lim:=p },pZ e { a8 with lim:=p } (l8 e { a8 with lim:=p })⟩:=
 ⟨yD d h a8 a1,C8 d h a8 a1 (yD d h a8 a1)⟩
def oY (a8:Cx):Nat->Lv
 | 0=>tb
 | k+1=>lv a8 k
theorem yE (a8:Cx):∀ t,oY a8 (t+1)=⟨l8 (oY a8 t) a8,pZ (oY a8 t) a8 (l8 (oY a8 t) a8)⟩
 | 0=>rfl
 | _+1=>rfl
def Rr.st:Rr α->Sw
 | .ok _ s=>s
 | .stop _ s=>s
theorem yF {j:Nat} {s:Sw} (h:s.ticks=j):l2 j s = .stop 3 s:=if_pos h
theorem yG {j:Nat} {s:Sw} (h:s.ticks≠j):l2 j s = .ok () { s with ticks:=s.ticks+1 }:=if_neg h
def p1 (s t:Sw):Prop:=s.out <+: t.out/\Ln t.data=Ln s.data/\(Ln s.out<=200->Ln t.out<=200)/\s.ticks<=t.ticks
theorem p1.refl (s:Sw):p1 s s:=⟨List.prefix_refl _,rfl,id,eD _⟩
theorem p1.trans {a b c:Sw} (h:p1 a b) (k:p1 b c):p1 a c:=⟨h.1.trans k.1,k.2.1.trans h.2.1,fun q=>k.2.2.1 (h.2.2.1 q),iC h.2.2.2 k.2.2.2⟩
def Kp (l:Sw->Rr α):Prop:=∀ s,p1 s (l s).st
def Cq (l:Sw->Rr α):Prop:=∀ s a t,l s = .ok a t->t.calls=s.calls
def td (j p:Nat):p0 j p where
 Sm:=fun _ _ _ c=>Cq c
 ok:=fun _ _ _ s a t h=>by cases h;rfl
 stop:=fun _ _ _ _ s a t h=>by cases h
 bind:=fun _ _ _ _ c _ b G J s a t h=>by
  have h:(c s).bind b = .ok a t:=h
  cases W:c s with
  | ok V u=>rw [W] at h;exact (J V u a t h).trans (G s V u W)
  | stop e u=>rw [W] at h;cases h
 tick:=fun _ _ _ c G s a t h=>by
  have h:(l2 p s).bind (fun _ s=>c s) = .ok a t:=h
  by_cases a2:s.ticks=p
  . rw [yF a2] at h;cases h
  . rw [yG a2] at h;exact G { s with ticks:=s.ticks+1 } a t h
 next:=fun _ s a t h=>by
  unfold nY at h
  split at h<;>(cases h;rfl)
 tell:=fun _ v s a t h=>by
  unfold pY at h
  split at h
  . cases h
  . cases h;rfl
 get:=fun _ _ _ s a t h=>by cases h;rfl
 set:=fun _ _ _ _ _ s a t h=>by cases h;rfl
 dip:=fun _ _ _ _ c g G s a t h=>by
  have h:(if s.calls=24 then Rr.stop 4 s else (c { s with calls:=s.calls+1 }).bind fun a s=>.ok (g a) { s with calls:=s.calls - 1 }) = .ok a t:=h
  split at h
  . cases h
  . cases W:c { s with calls:=s.calls+1 } with
    | stop e u=>rw [W] at h;cases h
    | ok V u=>
      rw [W] at h;have:=G _ V u W;cases h;show u.calls - 1=s.calls;rw [this];show s.calls+1 - 1=s.calls;omega
theorem vt (a8:Cx):∀ t,rR (td a8.lim a8.lim) 0 (oY a8 t) (oY a8 t)
 | 0=>⟨fun _ _ _ s a t h=>(by cases h),fun _ _ _ _ s a t h=>(by cases h)⟩
 | t+1=>by
   have aH:=vt a8 t;have:=C9 (td a8.lim a8.lim) aH a8 rfl;rw [yE];exact ⟨this.ent,this.whl⟩
end Go.Proofs.YtndkhgakfodldaaGreatDoor
