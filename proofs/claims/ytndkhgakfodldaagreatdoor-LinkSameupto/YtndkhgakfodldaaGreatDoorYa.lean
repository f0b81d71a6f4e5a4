import Derived.Test.YtndkhgakfodldaaGreatDoorUn
import Derived.Deep.RegionHeldLaw
set_option maxRecDepth 100000
set_option maxHeartbeats 6400000
set_option linter.unusedSimpArgs false
set_option linter.unusedVariables false
open Go.Proofs.Tryz
namespace Go.Proofs.YtndkhgakfodldaaGreatDoor
open Go.RowKit Go.Maps Go.WideMaps
variable {A:Nat->Prop} {B R q cp H cy g a9 au k3 sz:Nat} {K:List (Nat × Obj)} {P:Program} {Y:Exit->Act->World->Prop} {E a0 a6 ak z aT:OA} {O l:List dB} {c:Ck} {e:TypeId} {n:Int} {o:Oper} {ops:Array Oper} {rest:List Oper} {u:dN} {v:Value} {w G:World} {x y:dB} {ao:List Value}
def hP (v u:Value):Prop:=∀ k,v.ownBlock=some k->u.ownBlock≠some k
theorem hP.symm {u:Value} (h:hP v u):hP u v:=fun k F J=>h k J F
theorem hP.nil (u:Value):hP (dt) u:=fun k h=>by simp [Value.ownBlock] at h
theorem yG {a:Act} (l:o.guard=none) (s x:Operand) (t:TypeId)
 (ap:o.op = .call { callee:=.builtin .append,args:=#[s,x],argTypes:=#[t,t] }) (y:Nat) (e:TypeId) (z:Value) (size bytes:Nat) (ax:P.underlying t=some (.slice e))
 (V:(P.info? e).map (fun i=>(i.zero,i.size,i.bytes))=some (some z,size,bytes)) (C:z.cells.size=size) (am:0<size) (w:World) (v:Value) (n:Nat) (ao:List Value) (a8:a.eval s=v) (b5:w.ownsRow y e size v n ao)
 (cs:Array Value) (H:Nat) (d:H=w.heap.size) (S:a.eval x = .slice (some (dj H 0)) 1 1) (r:cs.size=size) (F:∀ u ∈ cs.toList,u.oneCell'=true)
 (Z:n<=2000000) (R:bytes<=200) (L:y<=w.heap.size)
 (h:∀ g q G,G.ownsRow y e size (.slice (some (dj g 0)) (n+1) q) (n+1) (ao++cs.toList)->Below y w G->w.heap.size<G.heap.size->
   (∀ (bv:Nat) (aI:TypeId) (b9 ai:Nat) (u:Value) (b:List Value),w.ownsRow bv aI b9 u ai b->hP u v->G.ownsRow bv aI b9 u ai b/\hP u (.slice (some (dj g 0)) (n+1) q))->(∀ (p:Nat) (x:Obj),w.heap[p]? = some x->v.ownBlock≠some p->G.heap[p]? = some x)->
   wpList P ops Y rest (a.put o.dst (.slice (some (dj g 0)) (n+1) q)) G) :
 wpList P ops Y (o :: rest) a (w.alloc (.cells cs e)):=by
 obtain ⟨aY,V,a9,ba,bA⟩:=info_parts V
 have a0:(w.alloc (.cells cs e)).heap.size=w.heap.size+1:=Ob
 refine wpList_append_lies (w.alloc (.cells cs e)) l s x t ap y e aY z size bytes ax V a9 ba bA C am v n ao a8 (b5.alloc _) (dj H 0) 1 1 cs.toList S (by simp [r]) ?_ F N7 Oh ?_ N7 _ rfl ?_
 . exact QA
 . exact RX
 . intro g q G c f a3 ac
   have b1:Below y w G:=((Below.refl y w).alloc L _).grown f N7 (fun k N=>(b5.lt k N).1);have J:=f.size;refine h g q G c b1 N7 (fun bv aI b9 ai u b aL m=>?_) (fun p x I aX=>?_)
   . refine ⟨(aL.alloc _).kept f ?_,fun k N ak=>?_⟩
     . cases N:u.ownBlock with
       | none=>exact Or.inl rfl
       | some k=>exact Or.inr (fun e=>m k N e.symm)
     . have be:=(aL.lt k N).2
       simp only [Value.ownBlock,kJ] at ak
       rcases a3 with F | F
       . exact m k N (by rw [F,ak])
       . omega
   . have aB:(w.alloc (.cells cs e)).heap[p]? = some x:=eR I
     exact (f.block p (lt_of_heap aB) (fun e=>aX e.symm)).trans aB
def tz (w:World) (a:OA) (l:List Bool):Prop:=l=[]\/∃ p C,a=some (dj p C)/\p<w.heap.size/\∀ i (h:i<l.length),w.cell? ⟨p,C+i,none⟩=some (.bool l[i])
theorem tz.later {a:OA} {l:List Bool} (h:tz w a l) (I:dm w G):tz G a l:=by
 exact RL
theorem tz.place {a:OA} {l:List Bool} (h:tz w a l) {k:Nat} (N:k<l.length):∃ p C,a=some (dj p C)/\p<w.heap.size/\w.cell? ⟨p,C+k,none⟩=some (.bool l[k]):=by
 exact SE
structure eK where
 op:Int
 a:Int
 b:Int
structure gd where
 at_:Int
 kind:Int
 m:Int
structure dE where
 code:List eK
 fixes:List gd
def eq (T a b:Int) (s:dE):dE:=⟨s.code++[⟨T,a,b⟩],s.fixes⟩
def jL (p m:Int) (i:eK) (s:dE):dE:=⟨s.code++[i],s.fixes++[⟨s.code.length,p,m⟩]⟩
def eG (T t:Int) (s:dE):dE:=jL 1 0 ⟨T,t,0⟩ s
def jM (x:Int) (i:eK):eK:=⟨i.op,x,i.b⟩
def ge (k:Nat) (s:dE):dE:=⟨s.code.modify k (jM s.code.length),s.fixes⟩
def fN (s:dE):Bool:=decide (2048<s.code.length)
def lR (f g:dE->dE) (s:dE):dE:=
 let ay:=f s
 let bH:=eq 22 0 0 (g (eG 12 0 ay))
 ge bH.code.length (eq 1 0 0 (ge ay.code.length (eG 11 0 bH)))
def lT (f g:dE->dE) (s:dE):dE:=
 let ay:=f s
 let eU:=eq 1 1 0 (eG 12 0 ay)
 ge eU.code.length (eq 22 0 0 (g (ge ay.code.length (eG 11 0 eU))))
def yH:dB:=⟨0,0,0,0,[]⟩
def dq (l:List dB) (i:Nat):dB:=l.getD i yH
def gh (f:dB->dE->dE) (l:List dB) (s:dE):dE:=l.foldl (fun s y=>f y s) s
def ix (f:dE->dE) (n m g:Int) (s:dE):dE:=jL 3 m ⟨6,g,n⟩ (f s)
def jN (f:dE->dE) (m g:Int) (s:dE):dE:=jL 2 m ⟨13,g,0⟩ (f s)
def dL:Nat->dB->dE->dE
 | 0,_,s=>s
 | k+1,x,s=>
   if x.op=1 then eq 1 x.n 0 s
   else if x.op=2 then eq 18 0 0 s
   else if x.op=16 then eq 2 x.at_ 0 s
   else if x.op=3 then jL 3 x.m ⟨4,x.at_,0⟩ s
   else if x.op=4 then eq 7 0 0 (ix (dL k (dq x.args 0)) x.n x.m x.at_ s)
   else if x.op=5 then jN (gh (dL k) x.args) x.m x.at_ s
   else if x.op=6 then eq 9 0 0 (dL k (dq x.args 0) s)
   else if x.op=7 then lR (dL k (dq x.args 0)) (dL k (dq x.args 1)) s
   else if x.op=8 then lT (dL k (dq x.args 0)) (dL k (dq x.args 1)) s
   else eq 10 x.op 0 (gh (dL k) x.args s)
def eS (f:du->dE->dE) (l:List du) (s:dE):dE:=l.foldl (fun s y=>if fN s=true then s else f y s) s
def oY (f:dE->dE) (m g:Int) (s:dE):dE:=if m = -1 then eq 3 g 0 (f s) else jL 3 m ⟨5,g,0⟩ (f s)
def mx (f g h:dE->dE) (e:Bool) (s:dE):dE:=
 let ay:=f s
 let b1:=g (eG 12 0 ay)
 if e=true then ge ay.code.length b1
 else ge b1.code.length (h (ge ay.code.length (eG 11 0 b1)))
def nT (f g:dE->dE) (s:dE):dE:=
 let ay:=f s
 ge ay.code.length (eG 11 s.code.length (g (eq 16 0 0 (eG 12 0 ay))))
def fj:Nat->du->dE->dE
 | 0,_,s=>s
 | k+1,a,s=>
   if a.op=1 then oY (dL 6 (dq a.args 0)) a.m a.at_ s
   else if a.op=2 then eq 8 0 0 (dL 6 (dq a.args 1) (ix (dL 6 (dq a.args 0)) a.n a.m a.at_ s))
   else if a.op=3 then eq 17 0 0 (jN (gh (dL 6) a.args) a.m a.at_ s)
   else if a.op=4 then mx (dL 6 (dq a.args 0)) (eS (fj k) a.body) (eS (fj k) a.other) a.other.isEmpty s
   else if a.op=5 then nT (dL 6 (dq a.args 0)) (eS (fj k) a.body) s
   else if a.op=6 then eq 15 0 0 (dL 6 (dq a.args 0) s)
   else if a.op=7 then eq 19 0 0 (dL 6 (dq a.args 0) s)
   else s
def iK (p:e5) (s:dE):dE:=eq 15 0 0 (eq 1 0 0 (eS (fj 6) p.body (eq 14 p.params p.locals s)))
def ht (f:dE->dE):Prop:=∀ s,s.code.length<=(f s).code.length
theorem eQ (T a b:Int) (s:dE):(eq T a b s).code.length=s.code.length+1:=by simp [eq]
theorem hQ (k m:Int) (i:eK) (s:dE):(jL k m i s).code.length=s.code.length+1:=by simp [jL]
theorem fS (T t:Int) (s:dE):(eG T t s).code.length=s.code.length+1:=hQ ..
theorem fC (k:Nat) (s:dE):(ge k s).code.length=s.code.length:=by simp [ge]
theorem vL {f:dB->dE->dE} (Y:∀ x,ht (f x)):∀ l,ht (gh f l)
 | [],s=>dA _
 | x :: r,s=>fZ (Y x s) (vL Y r (f x s))
theorem kO {f:du->dE->dE} (Y:∀ x,ht (f x)):∀ l,ht (eS f l)
 | [],s=>dA _
 | x :: r,s=>by
   show _<=(eS f r (if fN s=true then s else f x s)).code.length;refine fZ ?_ (kO Y r _);split
   . exact dA _
   . exact Y x s
theorem Mv {f g:dE->dE} (Y:ht f) (ak:ht g):ht (lR f g):=fun s=>by
 have F:=Y s;have J:=ak (eG 12 0 (f s));simp only [lR,fC,eQ,fS] at J ⊢;omega
theorem Mw {f g:dE->dE} (Y:ht f) (ak:ht g):ht (lT f g):=fun s=>by
 have F:=Y s;have J:=ak (ge (f s).code.length (eG 11 0 (eq 1 1 0 (eG 12 0 (f s)))));simp only [lT,fC,eQ,fS] at J ⊢;omega
theorem m2:∀ k x,ht (dL k x)
 | 0,_,s=>dA _
 | k+1,x,s=>by
   have ay:=fun y=>m2 k y
   have F:=ay (dq x.args 0) s;have J:=vL ay x.args s;have U:=Mv (ay (dq x.args 0)) (ay (dq x.args 1)) s;have aa:=Mw (ay (dq x.args 0)) (ay (dq x.args 1)) s;unfold dL
   repeat' split
   all_goals first | assumption | (simp only [eQ,hQ,ix,jN];omega)
theorem My {f g h:dE->dE} (Y:ht f) (ak:ht g) (al:ht h) (e:Bool):ht (mx f g h e):=fun s=>by
 have F:=Y s;have J:=ak (eG 12 0 (f s));have U:=al (ge (f s).code.length (eG 11 0 (g (eG 12 0 (f s)))));simp only [mx,fC,eQ,fS] at J U ⊢
 split<;>simp only [fC]<;>omega
theorem Mz {f g:dE->dE} (Y:ht f) (ak:ht g):ht (nT f g):=fun s=>by
 have F:=Y s;have J:=ak (eq 16 0 0 (eG 12 0 (f s)));simp only [nT,fC,eQ,fS] at J ⊢;omega
theorem MA {f:dE->dE} (Y:ht f) (m g:Int):ht (oY f m g):=fun s=>by
 have F:=Y s;unfold oY
 split<;>simp only [eQ,hQ]<;>omega
theorem ll:∀ k x,ht (fj k x)
 | 0,_,s=>dA _
 | k+1,x,s=>by
   have ay:=fun y=>ll k y
   have q:=m2 6 (dq x.args 0);have F:=q s;have J:=MA q x.m x.at_ s;have U:=m2 6 (dq x.args 1) (ix (dL 6 (dq x.args 0)) x.n x.m x.at_ s);have aa:=vL (m2 6) x.args s;have aB:=My q (kO ay x.body) (kO ay x.other) x.other.isEmpty s;have bj:=Mz q (kO ay x.body) s;unfold fj
   repeat' split
   all_goals first | assumption | (simp only [eQ,hQ,ix,jN] at U ⊢;omega)
theorem Dw (f:du->dE->dE):∀ (l:List du) (s:dE),fN s=true->eS f l s=s
 | [],s,_=>rfl
 | x :: r,s,h=>by
   show eS f r (if fN s=true then s else f x s)=s;rw [if_pos h];exact Dw f r s h
theorem MB (f:dB->dE->dE) (l:List dB) (s:dE) (j:Nat) (h:j<l.length):gh f (l.take (j+1)) s=f l[j] (gh f (l.take j) s):=by
 rw [gn h];unfold gh;rw [lG]
 rfl
theorem MC (f:du->dE->dE) (l:List du) (s:dE) (j:Nat) (h:j<l.length) (Z:fN (eS f (l.take j) s)=false):eS f (l.take (j+1)) s=f l[j] (eS f (l.take j) s):=by
 rw [gn h];unfold eS at Z ⊢;rw [lG];simp only [List.foldl_cons,List.foldl_nil];rw [if_neg (by rw [Z];decide)]
theorem MD (f:du->dE->dE) (l:List du) (s:dE) (j:Nat) (Z:fN (eS f (l.take j) s)=true):eS f l s=eS f (l.take j) s:=by
 have:=Dw f (l.drop j) (eS f (l.take j) s) Z;rw [← this];unfold eS;rw [← lG,oC]
theorem ME (f:dB->dE->dE) (Y:∀ x,ht (f x)) (l:List dB) (s:dE) (j:Nat):(gh f (l.take j) s).code.length<=(gh f l s).code.length:=by
 have:=vL Y (l.drop j) (gh f (l.take j) s);unfold gh at this ⊢;rwa [← lG,oC] at this
theorem MF (f:du->dE->dE) (Y:∀ x,ht (f x)) (l:List du) (s:dE) (j:Nat):(eS f (l.take j) s).code.length<=(eS f l s).code.length:=by
 have:=kO Y (l.drop j) (eS f (l.take j) s);unfold eS at this ⊢;rwa [← lG,oC] at this
theorem j7 (l:List dB) (i:Nat) (h:i<l.length):dq l i=l[i]:=by simp [dq,fV,ew h]
def ks (i:eK):List Value:=[di i.op,di i.a,di i.b]
def fw (l:List eK):List Value:=l.flatMap ks
def tA (f:gd):List Value:=[di f.at_,di f.kind,di f.m]
def m3 (l:List gd):List Value:=l.flatMap tA
theorem yI (l:List eK) (i:eK):fw (l++[i])=fw l++ks i:=by simp [fw]
theorem MG (l:List gd) (i:gd):m3 (l++[i])=m3 l++tA i:=by simp [m3]
theorem Dx (l:List eK):(fw l).length=l.length*3:=by
 induction l with
 | nil=>rfl
 | cons x r ay=>simp only [fw,ki,eM,gY] at ay ⊢;rw [ay];simp [ks];omega
theorem yJ:∀ (l:List eK) (k:Nat) (x:Int),k<l.length->fw (l.modify k (jM x))=(fw l).set (k*3+1) (di x)
 | [],k,_,h=>Pq
 | i :: r,0,x,_=>by simp [fw,ks,jM]
 | i :: r,k+1,x,h=>by
   have:=yJ r k x OU;simp only [fw,List.modify_succ_cons,ki] at this ⊢;rw [this,show (k+1)*3+1=(ks i).length+(k*3+1) from by simp [ks];omega,List.set_append_right _ _ N7,xj]
theorem Dy (l:List eK) (k:Nat) (h:k<l.length):(fw l)[k*3+1]? = some (di l[k].a):=by
 induction l generalizing k with
 | nil=>simp at h
 | cons x r ay=>
   cases k with
   | zero=>rfl
   | succ k=>
     have:=ay k OU;simp only [fw,ki,nD] at this ⊢;rw [lC (by simp [ks];omega),show (k+1)*3+1 - (ks x).length=k*3+1 from by simp [ks];omega];exact this
theorem tB (i:eK):∀ u ∈ ks i,u.oneCell'=true:=by simp [ks];exact ⟨rfl,rfl,rfl⟩
theorem MH (i:gd):∀ u ∈ tA i,u.oneCell'=true:=by simp [tA];exact ⟨rfl,rfl,rfl⟩
structure qV (w w':World) (B:Nat) (e:TypeId) (size:Nat) (v:Value) (n:Nat) (g cap:Nat) (xs:List Value):Prop where
 own:w'.ownsRow B e size (.slice (some (dj g 0)) (n+1) cap) (n+1) xs
 below:Below B w w'
 size:w.heap.size<w'.heap.size
 old:∀ (b:Nat) (x:Obj),w.heap[b]? = some x->v.ownBlock≠some b->w'.heap[b]? = some x
 at_:v.ownBlock=some g\/w.heap.size<g
theorem tC {a:Act} (l:o.guard=none) (s x:Operand) (t:TypeId)
 (ap:o.op = .call { callee:=.builtin .append,args:=#[s,x],argTypes:=#[t,t] }) (y:Nat) (e:TypeId) (z:Value) (size bytes:Nat) (ax:P.underlying t=some (.slice e))
 (V:(P.info? e).map (fun i=>(i.zero,i.size,i.bytes))=some (some z,size,bytes)) (C:z.cells.size=size) (am:0<size) (w:World) (v:Value) (n:Nat) (ao:List Value) (a8:a.eval s=v) (b5:w.ownsRow y e size v n ao)
 (cs:Array Value) (H:Nat) (d:H=w.heap.size) (S:a.eval x = .slice (some (dj H 0)) 1 1) (r:cs.size=size) (F:∀ u ∈ cs.toList,u.oneCell'=true)
 (Z:n<=2000000) (R:bytes<=200) (L:y<=w.heap.size) (M:World) (ai:M=w.alloc (.cells cs e))
 (h:∀ g q G,qV w G y e size v n g q (ao++cs.toList)->wpList P ops Y rest (a.put o.dst (.slice (some (dj g 0)) (n+1) q)) G) :
 wpList P ops Y (o :: rest) a M:=by
 subst ai;obtain ⟨aY,V,a9,ba,bA⟩:=info_parts V
 have a0:(w.alloc (.cells cs e)).heap.size=w.heap.size+1:=Ob
 refine wpList_append_lies (w.alloc (.cells cs e)) l s x t ap y e aY z size bytes ax V a9 ba bA C am v n ao a8 (b5.alloc _) (dj H 0) 1 1 cs.toList S (by simp [r]) ?_ F N7 Oh ?_ N7 _ rfl ?_
 . exact QA
 . exact RX
 . exact QS
theorem Dz {a:Act} {K:Act->World->Prop} {E:Prop} (l:o.guard=none) (s x:Operand) (t:TypeId)
 (ap:o.op = .call { callee:=.builtin .append,args:=#[s,x],argTypes:=#[t,t] }) (y:Nat) (e:TypeId) (z:Value) (size bytes:Nat) (ax:P.underlying t=some (.slice e))
 (V:(P.info? e).map (fun i=>(i.zero,i.size,i.bytes))=some (some z,size,bytes)) (C:z.cells.size=size) (am:0<size) (w:World) (v:Value) (n:Nat) (ao:List Value) (a8:a.eval s=v) (b5:w.ownsRow y e size v n ao)
 (cs:Array Value) (H:Nat) (d:H=w.heap.size) (S:a.eval x = .slice (some (dj H 0)) 1 1) (r:cs.size=size) (F:∀ u ∈ cs.toList,u.oneCell'=true)
 (Z:n<=2000000) (R:bytes<=200) (L:y<=w.heap.size) (M:World) (ai:M=w.alloc (.cells cs e))
 (h:∀ g q G,qV w G y e size v n g q (ao++cs.toList)->K (a.put o.dst (.slice (some (dj g 0)) (n+1) q)) G) :
 if Region.wanted o (yielded ops a.tmps)=true then Oper.wp P o a M K Y else E:=by
 subst ai;obtain ⟨aY,V,a9,ba,bA⟩:=info_parts V
 have a0:(w.alloc (.cells cs e)).heap.size=w.heap.size+1:=Ob
 refine step_append_lies (w.alloc (.cells cs e)) l s x t ap y e aY z size bytes ax V a9 ba bA C am v n ao a8 (b5.alloc _) (dj H 0) 1 1 cs.toList S (by simp [r]) ?_ F N7 Oh ?_ N7 _ rfl ?_
 . exact QA
 . exact RX
 . exact QS
theorem iZ {n:Nat} (h:w.ownsRow B e sz v n ao) (N:∀ k,v.ownBlock=some k->G.heap[k]? = w.heap[k]?):G.ownsRow B e sz v n ao:=by
 refine ⟨h.1,?_⟩
 rcases h.2 with F | ⟨g,q,o,af,I,ak,Q⟩
 . exact Or.inl F
 . exact Or.inr ⟨g,q,o,af,I,(N g (by rw [af];rfl)).trans ak,Q⟩
theorem hS {n:Nat} (h:w.ownsRow B e sz v n ao):∃ a q,v = .slice a n q/\n<=q/\q<=maxLen:=by
 rcases h.2 with ⟨F,J⟩ | ⟨g,q,o,af,_,_,U,aa,_⟩
 . exact ⟨none,0,by rw [J];exact F,N7,Oh⟩
 . exact ⟨_,q,af,U,aa⟩
theorem ownsRow_set {n:Nat} (h:w.ownsRow B e sz (.slice (some (dj g 0)) n q) n ao) (j:Nat) (u:Value) (a2:j<n*sz) :
 (w.setCell (dj g j) u).ownsRow B e sz (.slice (some (dj g 0)) n q) n (ao.set j u):=by
 refine ⟨by rw [oG];exact h.1,?_⟩
 rcases h.2 with ⟨F,_⟩ | ⟨ac,f,o,af,I,ak,U,aa,aB,bj⟩
 . cases F
 . cases af
   refine Or.inr ⟨g,q,o.setIfInBounds j u,rfl,I,heap_set ak u,U,aa,by rw [Array.size_setIfInBounds];exact aB,?_⟩;rw [Array.toList_setIfInBounds,← bj,List.take_set]
structure gU (w0 w:World) (R:Nat) (K:List (Nat × Obj)) (cv fv:Value) (s:dE):Prop where
 blk:w.heap[R]? = some (.cells #[cv,fv] 136)
 hR:w0.heap.size<=R
 code:w.ownsRow w0.heap.size 69 3 cv s.code.length (fw s.code)
 fix:w.ownsRow w0.heap.size 67 3 fv s.fixes.length (m3 s.fixes)
 apt:hP cv fv
 nc:cv.ownBlock≠some R
 nf:fv.ownBlock≠some R
 below:dm w0 w
 kp:∀ x ∈ K,w.heap[x.1]? = some x.2/\x.1≠R/\cv.ownBlock≠some x.1/\fv.ownBlock≠some x.1
def dS (w0 w:World) (R:Nat) (K:List (Nat × Obj)) (s:dE):Prop:=s.fixes.length<=s.code.length/\∃ aA z,gU w0 w R K aA z s
section
variable {w0 w G:World} {R:Nat} {K K':List (Nat × Obj)} {aA z:Value} {s:dE}
theorem gU.ltR (h:gU w0 w R K aA z s):R<w.heap.size:=lt_of_heap h.blk
theorem gU.hB (h:gU w0 w R K aA z s):w0.heap.size<=w.heap.size:=fZ h.hR (xF h.ltR)
theorem gU.later (h:gU w0 w R K aA z s) (I:dm w G):gU w0 G R K aA z s:=
 { h with
   blk:=(I.block R h.ltR).trans h.blk
   code:=ownsRow_later h.code I
   fix:=ownsRow_later h.fix I
   below:=h.below.trans (I.mono h.hB)
   kp:=fun x S=>⟨(I.block _ (lt_of_heap (h.kp x S).1)).trans (h.kp x S).1,(h.kp x S).2⟩}
theorem gU.alloc (h:gU w0 w R K aA z s) (o:Obj):gU w0 (w.alloc o) R K aA z s:=h.later ((Below.refl _ _).alloc (dA _) o)
theorem gU.drew (h:gU w0 w R K aA z s):gU w0 w.drew R K aA z s:=h.later (Below.refl _ _).drew
theorem gU.box (h:gU w0 w R K aA z s) (o:Obj):gU w0 (w.alloc o) R ((w.heap.size,o) :: K) aA z s:=
 { h.alloc o with
   kp :=fun x S=>by
    rcases kk.1 S with rfl | S
    . refine ⟨dX w o,fun e=>by have:=h.ltR;simp only at e;omega,fun e=>?_,fun e=>?_⟩
      . have:=(h.code.lt _ e).2;simp only at this;omega
      . have:=(h.fix.lt _ e).2;simp only at this;omega
    . exact (h.alloc o).kp x S }
theorem gU.sub (h:gU w0 w R K aA z s) (aO:∀ x ∈ K',x ∈ K):gU w0 w R K' aA z s:={ h with kp:=fun x S=>h.kp x (aO x S) }
theorem dS.later (h:dS w0 w R K s) (I:dm w G):dS w0 G R K s:=by obtain ⟨X,_,_,h⟩:=h;exact ⟨X,_,_,h.later I⟩
theorem dS.alloc (h:dS w0 w R K s) (o:Obj):dS w0 (w.alloc o) R K s:=by obtain ⟨X,_,_,h⟩:=h;exact ⟨X,_,_,h.alloc o⟩
theorem dS.drew (h:dS w0 w R K s):dS w0 w.drew R K s:=by obtain ⟨X,_,_,h⟩:=h;exact ⟨X,_,_,h.drew⟩
theorem dS.box (h:dS w0 w R K s) (o:Obj):dS w0 (w.alloc o) R ((w.heap.size,o) :: K) s:=by obtain ⟨X,_,_,h⟩:=h;exact ⟨X,_,_,h.box o⟩
theorem dS.sub (h:dS w0 w R K s) (aO:∀ x ∈ K',x ∈ K):dS w0 w R K' s:=by obtain ⟨X,_,_,h⟩:=h;exact ⟨X,_,_,h.sub aO⟩
theorem dS.tail {x:Nat × Obj} (h:dS w0 w R (x :: K) s):dS w0 w R K s:=h.sub fun _=>fh _
theorem dS.has (h:dS w0 w R K s) {b:Nat} {o:Obj} (S:(b,o) ∈ K):w.heap[b]? = some o:=by obtain ⟨_,_,_,h⟩:=h;exact (h.kp _ S).1
theorem dS.head {b:Nat} {o:Obj} (h:dS w0 w R ((b,o) :: K) s):w.heap[b]? = some o:=h.has (fI ..)
theorem dS.below (h:dS w0 w R K s):dm w0 w:=by obtain ⟨_,_,_,h⟩:=h;exact h.below
theorem gU.cells (h:gU w0 w R K aA z s):w.cell? (dj R 0)=some aA/\w.cell? (dj R 1)=some z/\∀ j,w.frozen? (dj R j)=false:=
 ⟨by rw [eZ h.blk];rfl,by rw [eZ h.blk];rfl,fun j=>hD h.blk j⟩
theorem gU.putC (h:gU w0 w R K aA z s) {i:eK} (ap:qV w G w0.heap.size 69 3 aA s.code.length g q (fw s.code++ks i)) :
 G.cell? (dj R 0)=some aA/\G.frozen? (dj R 0)=false/\gU w0 (G.setCell (dj R 0) (.slice (some (dj g 0)) (s.code.length+1) q)) R K (.slice (some (dj g 0)) (s.code.length+1) q) z ⟨s.code++[i],s.fixes⟩:=by
 have I:=ap.old R _ h.blk h.nc
 have a:g≠R:=fun e=>by
  rcases ap.at_ with F | F
  . exact h.nc (by rw [F,e])
  . have:=h.ltR;omega
 have aX:∀ p,p≠R->(G.setCell (dj R 0) (.slice (some (dj g 0)) (s.code.length+1) q)).heap[p]? = G.heap[p]?:=fun p I=>eh (p:=(dj R 0)) I _
 refine ⟨by rw [eZ I];rfl,hD I 0,?_⟩
 exact {
  blk:=(heap_set I _).trans rfl
  hR:=h.hR
  code:=by
   have:=iZ (G:=G.setCell (dj R 0) (.slice (some (dj g 0)) (s.code.length+1) q)) ap.own (fun k N=>aX k (fun e=>by simp only [Value.ownBlock,kJ] at N;omega));rw [yI,eM];exact this
  fix:=iZ h.fix (fun k N=>by
   rw [aX k (fun e=>h.nf (by rw [N,e]))];have X:=(h.fix.lt k N).2
   exact (ap.old k _ (by rw [qx X]) (fun e=>h.apt k e N)).trans (qx X).symm)
  apt:=fun k F J=>by
   simp only [Value.ownBlock,kJ] at F
   rcases ap.at_ with U | U
   . exact h.apt k (by rw [U,F]) J
   . have:=(h.fix.lt k J).2;omega
  nc:=fun e=>a O8
  nf:=h.nf
  below:=(h.below.trans ap.below).setCell (p:=(dj R 0)) h.hR _
  kp:=fun x S=>by
   obtain ⟨F,J,U,aa⟩:=h.kp x S;refine ⟨(aX _ J).trans (ap.old _ _ F U),J,fun e=>?_,aa⟩;simp only [Value.ownBlock,kJ] at e
   rcases ap.at_ with aB | aB
   . exact U (by rw [aB,e])
   . have:=lt_of_heap F;omega }
theorem gU.putF (h:gU w0 w R K aA z s) {i:gd} (ap:qV w G w0.heap.size 67 3 z s.fixes.length g q (m3 s.fixes++tA i)) :
 G.cell? (dj R 1)=some z/\G.frozen? (dj R 1)=false/\gU w0 (G.setCell (dj R 1) (.slice (some (dj g 0)) (s.fixes.length+1) q)) R K aA (.slice (some (dj g 0)) (s.fixes.length+1) q) ⟨s.code,s.fixes++[i]⟩:=by
 have I:=ap.old R _ h.blk h.nf
 have a:g≠R:=fun e=>by
  rcases ap.at_ with F | F
  . exact h.nf (by rw [F,e])
  . have:=h.ltR;omega
 have aX:∀ p,p≠R->(G.setCell (dj R 1) (.slice (some (dj g 0)) (s.fixes.length+1) q)).heap[p]? = G.heap[p]?:=fun p I=>eh (p:=(dj R 1)) I _
 refine ⟨by rw [eZ I];rfl,hD I 1,?_⟩
 exact {
  blk:=(heap_set I _).trans rfl
  hR:=h.hR
  fix:=by
   have:=iZ (G:=G.setCell (dj R 1) (.slice (some (dj g 0)) (s.fixes.length+1) q)) ap.own (fun k N=>aX k (fun e=>by simp only [Value.ownBlock,kJ] at N;omega));rw [MG,eM];exact this
  code:=iZ h.code (fun k N=>by
   rw [aX k (fun e=>h.nc (by rw [N,e]))];have X:=(h.code.lt k N).2
   exact (ap.old k _ (by rw [qx X]) (fun e=>h.apt k N e)).trans (qx X).symm)
  apt:=fun k J F=>by
   simp only [Value.ownBlock,kJ] at F
   rcases ap.at_ with U | U
   . exact h.apt k J (by rw [U,F])
   . have:=(h.code.lt k J).2;omega
  nf:=fun e=>a O8
  nc:=h.nc
  below:=(h.below.trans ap.below).setCell (p:=(dj R 1)) h.hR _
  kp:=fun x S=>by
   obtain ⟨F,J,U,aa⟩:=h.kp x S;refine ⟨(aX _ J).trans (ap.old _ _ F aa),J,U,fun e=>?_⟩;simp only [Value.ownBlock,kJ] at e
   rcases ap.at_ with aB | aB
   . exact aa (by rw [aB,e])
   . have:=lt_of_heap F;omega }
end
theorem Tryz.infoInstr:(prog.info? 69).map (fun i=>(i.zero,i.size,i.bytes))=some (some (.agg #[di 0,di 0,di 0]),3,24):=by kernel_rfl
theorem Tryz.infoFix:(prog.info? 67).map (fun i=>(i.zero,i.size,i.bytes))=some (some (.agg #[di 0,di 0,di 0]),3,24):=by kernel_rfl
theorem so {w0:World} {s:dE} (h:dS w0 w R K s) :
 dw 78 #[dF R 0] w fun e G=>e = .returned (di s.code.length)/\G=w:=by
 obtain ⟨-,aA,z,h⟩:=h;obtain ⟨a,q,rfl, -, -⟩:=hS h.code;obtain ⟨bt, -, -⟩:=h.cells;clear h;go_enter func78,ntmps78;exact RJ
theorem DA {w0:World} {s:dE} (h:dS w0 w R K s) :
 dw 80 #[dF R 0] w fun e G=>e = .returned (.bool (fN s))/\G=w:=by
 obtain ⟨-,aA,z,h⟩:=h;obtain ⟨a,q,rfl, -, -⟩:=hS h.code;obtain ⟨bt, -, -⟩:=h.cells;clear h;go_enter func80,ntmps80;go_wp2_with fail;go_ret;exact ⟨ret_bool (by unfold fN;exact decide_eq_decide.2 N7),rfl⟩
theorem ju {w0:World} {s:dE} (T a b:Int) (h:dS w0 w R K s) (Q:s.code.length<=1000000) :
 dw 129 #[dF R 0,di T,di a,di b] w fun e G=>e = .returned (.tuple #[])/\dS w0 G R K (eq T a b s):=by
 obtain ⟨X,aA,z,h⟩:=h;obtain ⟨bt, -, -⟩:=h.cells;have L:=hid h;obtain ⟨i,sc,rfl, -, -⟩:=hS h.code;clear h;go_enter func129,ntmps129
 go_wp2_with (at_builtin;refine tC rfl (.tmp 12) (.tmp 17) 59 rfl w0.heap.size 69 _ 3 24 Tryz.underlying59 Tryz.infoInstr rfl N9 w (.slice i s.code.length sc) s.code.length (fw s.code) rfl L.code #[di T,di a,di b] _ rfl rfl rfl (tB ⟨T,a,b⟩) N7 N9 L.hB _ rfl ?_;intro g q dk ap;obtain ⟨bE,aT,ai⟩:=L.putC (i:=⟨T,a,b⟩) ap;have aS:=hid ai;clear ap ai)
 go_end0;exact ⟨rfl,by simp only [eq,eM,gY,pA];omega,_,_,aS⟩
theorem DB:Enters prog 78:=enters_of func78 (by kernel_rfl) rfl
theorem tD {w0:World} {s:dE} (p m T a b:Int) (h:dS w0 w R K s) (Q:s.code.length<=1000000) :
 dw 270 #[dF R 0,di p,di m,.agg #[di T,di a,di b]] w fun e G=>e = .returned (.tuple #[])/\dS w0 G R K (jL p m ⟨T,a,b⟩ s):=by
 obtain ⟨X,aA,z,h⟩:=h;obtain ⟨a7,ab,rfl, -, -⟩:=hS h.fix;obtain ⟨a8,aB,rfl, -, -⟩:=hS h.code;have bJ:=hid ((h.sub (K':=[]) Ob).box (.cells #[di T,di a,di b] 69));have L:=hid (h.box (.cells #[di T,di a,di b] 69));obtain ⟨bt,ah,cf⟩:=L.cells;have a6:=L.ltR;clear h;go_enter func270,ntmps270;go_upto_region 1 with fail;generalize aE:w.alloc (.cells #[di T,di a,di b] 69)=dk at *;have b0:=hid L.drew;have aP:=hid (fun (M:World) (ai:M=dk.drew)=>(by subst ai;exact (so (K:=(w.heap.size,.cells #[di T,di a,di b] 69) :: K) (s:=s) ⟨X,_,_,b0⟩).mono (fun e G h=>⟨_,h.1,rfl,h.2⟩):dw 78 #[dF R 0] M fun e G=>∃ u,e = .returned u/\(u=di s.code.length/\G=M)));have ao:=hid b0.cells.2.1;have d:=hid (fun o=>(b0.alloc o).cells.2.1)
 go_region_law
  (first
    | (refine uI Oq 78 _ _ Oq DB _ Oq (aP _ rfl) ?_;rintro u w2 ⟨rfl,rfl⟩)
    | (refine Dz rfl (.tmp 12) (.tmp 18) 60 rfl w0.heap.size 67 _ 3 24 Tryz.underlying60 Tryz.infoFix rfl N9 dk.drew (.slice a7 s.fixes.length ab) s.fixes.length (m3 s.fixes) rfl b0.fix #[di s.code.length,di p,di m] _ Ob rfl rfl (MH ⟨s.code.length,p,m⟩) N7 N9 b0.hB _ rfl ?_;intro g q dC ap;obtain ⟨bE,aT,ai⟩:=b0.putF (i:=⟨s.code.length,p,m⟩) ap;have aS:=hid ai;clear ap ai))
 all_goals
  generalize U:dC.setCell (dj R 1) (.slice (some (dj g 0)) (s.fixes.length+1) q)=dD at *;clear bE aT bt ah cf a6 aP ao d;obtain ⟨bt,ah,cf⟩:=aS.cells;have a6:=aS.ltR;have N:=(aS.kp _ (fI ..)).1;obtain ⟨af,a4,am, -⟩:=nP N;have bb:=lt_of_heap N;have c:=hid aS.drew;clear N;go_wp2_with fail
  go_region_law (first
   | (refine Dz rfl (.tmp 26) (.tmp 28) 59 rfl w0.heap.size 69 _ 3 24 Tryz.underlying59 Tryz.infoInstr rfl N9 dD.drew (.slice a8 s.code.length aB) s.code.length (fw s.code) rfl c.code #[di T,di a,di b] _ Ob rfl rfl (tB ⟨T,a,b⟩) N7 N9 c.hB _ rfl ?_;intro bL cap5 dJ ap;obtain ⟨bE,aT,ai⟩:=c.putC (i:=⟨T,a,b⟩) ap;have bB:=hid ai;clear ap ai))
  all_goals
   go_end0;exact ⟨rfl,by simp only [jL,eM,gY,pA];omega,_,_,bB.sub (fun x S=>fh _ S)⟩
theorem DC {w0:World} {s:dE} (T t:Int) (h:dS w0 w R K s) (Q:s.code.length<=1000000) :
 dw 275 #[dF R 0,di T,di t] w fun e G=>e = .returned (.tuple #[])/\dS w0 G R K (eG T t s):=by
 have aS:=hid h;clear h;go_enter func275,ntmps275;go_wp2_with fail;refine (tD 1 0 T t 0 aS Q).mono ?_;rintro e dk ⟨rfl,F⟩;have d:=hid F;clear F;go_wp2_with fail;go_end0;exact ⟨rfl,d⟩
def sq (R:Nat):Obj:=.cells #[dF R 0] 134
def vM (n:Nat):Obj:=.cells #[di n] 3
theorem pW {w0:World} {s:dE} (T:Int) (h:dS w0 w R K s) (Q:s.code.length<=1000000) :
 dw 274 #[dF R 0,di T] w fun e G=>e = .returned (.func (.func 291) #[] #[dF w.heap.size 0,.pointer (some ⟨w.heap.size+1,0,none⟩)])/\dS w0 G R ((w.heap.size+1,vM s.code.length) :: (w.heap.size,sq R) :: K) (eG T 0 s):=by
 have aS:Hid (dS w0 (w.alloc (.cells #[dF R 0] 134)) R ((w.heap.size,sq R) :: K) s):=h.box (sq R)
 have U:Hid (dS w0 ((w.alloc (.cells #[dF R 0] 134)).alloc (.cells #[di s.code.length] 3)) R ((w.heap.size+1,vM s.code.length) :: (w.heap.size,sq R) :: K) s):=by
  have:=(h.box (sq R)).box (vM s.code.length);rw [pv] at this;exact this
 clear h;go_enter func274,ntmps274;go_wp2_with fail;refine (so aS).mono ?_;rintro e dk ⟨rfl,rfl⟩;go_wp2_with fail;refine (DC T 0 U Q).mono ?_;rintro e dk ⟨rfl,F⟩;have d:=hid F;clear F;go_wp2_with fail;go_ret;exact ⟨rfl,d⟩
theorem gU.land {w0:World} {s:dE} {z:Value} (h:gU w0 w R K (.slice (some (dj g 0)) s.code.length q) z s) (k:Nat) (N:k<s.code.length) :
 w.cell? ⟨g,k*3+1,none⟩=some (di s.code[k].a)/\w.frozen? ⟨g,k*3+1,none⟩=false/\gU w0 (w.setCell ⟨g,k*3+1,none⟩ (di s.code.length)) R K (.slice (some (dj g 0)) s.code.length q) z (ge k s):=by
 have W:=h.code.cells (g:=g) rfl _ _ (Dy s.code k N);rw [show ((dj g 0):Addr).add (k*3+1)=⟨g,k*3+1,none⟩ from On] at W;have c:w0.heap.size<=g:=(h.code.lt g rfl).1
 have aX:∀ p,p≠g->(w.setCell ⟨g,k*3+1,none⟩ (di s.code.length)).heap[p]? = w.heap[p]?:=fun p I=>eh (p:=⟨g,k*3+1,none⟩) I _
 have a:R≠g:=fun e=>h.nc (by rw [e];rfl)
 refine ⟨W,?_,?_⟩
 . rcases h.code.2 with ⟨F,_⟩ | ⟨ac,f,o,af,_,ak,_⟩
   . cases F
   . cases af;exact hD ak _
 . have b5:=ownsRow_set h.code (k*3+1) (di s.code.length) N7
   rw [← yJ s.code k _ N] at b5
   exact {
    blk:=(aX R a).trans h.blk
    hR:=h.hR
    code:=by rw [fC];exact b5
    fix:=iZ h.fix (fun p I=>aX p (fun e=>h.apt g rfl (by rw [I,e])))
    apt:=h.apt
    nc:=h.nc
    nf:=h.nf
    below:=h.below.setCell (p:=⟨g,k*3+1,none⟩) c _
    kp:=fun x S=>by
     obtain ⟨F,J,U,aa⟩:=h.kp x S
     exact ⟨(aX _ (fun e=>U (by rw [e];rfl))).trans F,J,U,aa⟩}
theorem pY {w0:World} {s:dE} {b k:Nat} (h:dS w0 w R K s) (F:(b,sq R) ∈ K) (J:(b+1,vM k) ∈ K) (N:k<s.code.length) (Q:s.code.length<=1000000) :
 dw 291 #[dF b 0,.pointer (some ⟨b+1,0,none⟩)] w fun e G=>e = .returned (.tuple #[])/\dS w0 G R K (ge k s):=by
 have aL:=hid (fun (M:World) (ai:dS w0 M R K s)=>((so ai).mono (fun e G h=>⟨_,h.1,rfl,h.2⟩):dw 78 #[dF R 0] M fun e G=>∃ u,e = .returned u/\(u=di s.code.length/\G=M)));have aP:=hid (aL _ h.drew);obtain ⟨X,aA,z,h⟩:=h;obtain ⟨g,q,rfl, -⟩:=h.code.form N7
 have az:w.cell? (dj b 0)=some (dF R 0):=by rw [eZ (h.kp _ F).1];rfl
 have aK:w.cell? ⟨b+1,0,none⟩=some (di k):=by rw [eZ (h.kp _ J).1];rfl
 obtain ⟨bt, -, -⟩:=h.cells;obtain ⟨D,ad,a⟩:=h.land k N;have aQ:=a.drew;clear a
 have ao:Hid (w.drew.cell? (dj b 0)=some (dF R 0)/\w.drew.cell? ⟨b+1,0,none⟩=some (di k)/\w.drew.cell? (dj R 0)=some (.slice (some (dj g 0)) s.code.length q)):=⟨az,aK,bt⟩
 have b9:Hid ((w.setCell ⟨g,k*3+1,none⟩ (di s.code.length)).drew.cell? (dj b 0)=some (dF R 0)/\(w.setCell ⟨g,k*3+1,none⟩ (di s.code.length)).drew.cell? ⟨b+1,0,none⟩=some (di k)/\(w.setCell ⟨g,k*3+1,none⟩ (di s.code.length)).drew.cell? (dj R 0)=some (.slice (some (dj g 0)) s.code.length q)):=
  ⟨by rw [eZ (aQ.kp _ F).1];rfl,by rw [eZ (aQ.kp _ J).1];rfl,aQ.cells.1⟩
 have b2:=hid aQ;clear h aQ aL F J;go_enter func291,ntmps291;go_upto_region 0 with fail
 go_region_held_law (fun M=>M.cell? (dj b 0)=some (dF R 0)/\M.cell? ⟨b+1,0,none⟩=some (di k)/\M.cell? (dj R 0)=some (.slice (some (dj g 0)) s.code.length q)) (first | with_reducible exact ao.out | with_reducible exact b9.out)
  (first
    | (refine uI Oq 78 _ _ Oq DB _ Oq aP ?_;rintro u w2 ⟨rfl,rfl⟩))
 all_goals
  go_end0;exact ⟨rfl,by rw [fC];exact X,_,_,b2⟩
def gy (w0:World) (R k:Nat) (y:dB):Prop:=∀ (A:Nat->Prop) (ak:OA) (cp:Nat) (K:List (Nat × Obj)) (s:dE) (w:World),dx w0 A ak y.args.length (es y.args)->dS w0 w R K s->(dL k y s).code.length<=1000000->
 dw 216 #[dF R 0,.agg #[di y.op,di y.n,di y.m,di y.at_,.slice ak y.args.length cp]] w fun e G=>e = .returned (.tuple #[])/\dS w0 G R K (dL k y s)
theorem DD {w0:World} {k:Nat} {s:dE} {a:OA} (aw:∀ y ∈ l,gy w0 R k y) (an:dx w0 A a l.length (es l)) (h:dS w0 w R K s) (Q:(gh (dL k) l s).code.length<=1000000) :
 dw 273 #[dF R 0,.slice a l.length q] w fun e G=>e = .returned (.tuple #[])/\dS w0 G R K (gh (dL k) l s):=by
 have bK:=an.bound;have b0:=hid an;have aS:=hid h;have aV:=hid aw;have z:=hid (fun j=>fZ (ME (dL k) (m2 k) l s j) Q);clear an h aw Q;go_enter func273,ntmps273;go_wp2_with fail
 go_loopw [8] (fun i wr=>∃ j:Nat,j<=l.length/\i=di j/\dS w0 wr R K (gh (dL k) (l.take j) s)) (fun i _=>l.length - (intOf i).toNat)
 case atStart=>exact ⟨0,dY _,rfl,aS⟩
 case round=>
  obtain ⟨j,a2,rfl,aj⟩:=hrel;have d:=hid aj;clear aj
  by_cases ac:j<l.length
  . obtain ⟨p,C,ak,cp,rfl,S⟩:=(b0.later d.below).nd j ac
    obtain ⟨aL,c0,aa',cp',aB,D⟩:=b0.nd j ac
    cases aB
    obtain ⟨bb,af,a4,am,a5,ax,_,_,_,_,_⟩:=S;have bo:=(d.below.cell (p:=⟨p,C+j*5+4,none⟩) D.lt).trans D.c4
    obtain ⟨rfl,rfl⟩:ak=aa'/\cp=cp':=by
     rw [ax] at bo;simp only [kJ,Value.slice.injEq] at bo;exact ⟨bo.1,bo.2.2⟩
    have aR:=hid D.args';have aM:=hid (MB (dL k) l s j ac);have n:=hid (z (j+1));rw [aM.out] at n;have aX:=hid (aV l[j] (eb ac));clear bo D;generalize l[j]=x at *;go_wp2_with fail;refine (aX A ak cp K _ _ aR (d.alloc _) n).mono ?_;rintro e dC ⟨rfl,U⟩;have o:=hid U;clear U;go_wp2_with fail;go_roundw
    case rel=>exact ⟨j+1,N7,Ou,by rw [aM.out];exact o⟩
    case measure=>simp [intOf];omega
  . exact Sj
theorem DE {w0:World} {k:Nat} {s:dE} (n m g:Int) (aw:gy w0 R k y) (an:dx w0 A ak y.args.length (es y.args)) (h:dS w0 w R K s) (Q:(dL k y s).code.length<=1000000) :
 dw 215 #[dF R 0,di n,di m,di g,.agg #[di y.op,di y.n,di y.m,di y.at_,.slice ak y.args.length cp]] w fun e G=>e = .returned (.tuple #[])/\dS w0 G R K (ix (dL k y) n m g s):=by
 have aS:=hid h;have ao:=hid (fun (o:Obj)=>aw A ak cp K s _ an (h.alloc o) Q);clear h aw an;go_enter func215,ntmps215;go_wp2_with fail;refine (ao _).mono ?_;rintro e dk ⟨rfl,F⟩;have d:=hid F;clear F;go_wp2_with fail;refine (tD 3 m 6 g n d Q).mono ?_;exact Sv
theorem DF {w0:World} {k:Nat} {s:dE} {a:OA} (m g:Int) (aw:∀ y ∈ l,gy w0 R k y) (an:dx w0 A a l.length (es l)) (h:dS w0 w R K s) (Q:(gh (dL k) l s).code.length<=1000000) :
 dw 217 #[dF R 0,di m,di g,.slice a l.length q] w fun e G=>e = .returned (.tuple #[])/\dS w0 G R K (jN (gh (dL k) l) m g s):=by
 have ao:=hid (DD (q:=q) aw an h Q);clear h aw an;go_enter func217,ntmps217;go_wp2_with fail;refine ao.mono ?_;rintro e dk ⟨rfl,F⟩;have d:=hid F;clear F;go_wp2_with fail;refine (tD 2 m 13 g 0 d Q).mono ?_;exact Sv
theorem MI {w0:World} {k:Nat} {s:dE} (E:gy w0 R k x) (a:gy w0 R k y) (c:dx w0 A z x.args.length (es x.args)) (l:dx w0 A aT y.args.length (es y.args)) (h:dS w0 w R K s) (Q:(lR (dL k x) (dL k y) s).code.length<=1000000) :
 dw 271 #[dF R 0,.agg #[di x.op,di x.n,di x.m,di x.at_,.slice z x.args.length H],.agg #[di y.op,di y.n,di y.m,di y.at_,.slice aT y.args.length cy]] w fun e G=>e = .returned (.tuple #[])/\dS w0 G R K (lR (dL k x) (dL k y) s):=by
 have bB:=m2 k x s;have bH:=m2 k y (eG 12 0 (dL k x s))
 have bG:(dL k y (eG 12 0 (dL k x s))).code.length+3<=1000000:=by simp only [lR,fC,eQ,fS] at Q;omega
 rw [fS] at bH
 have aS:Hid (dS w0 ((w.alloc (fg x.op x.n x.m x.at_ z x.args.length H)).alloc (fg y.op y.n y.m y.at_ aT y.args.length cy)) R ((w.heap.size+1,(fg y.op y.n y.m y.at_ aT y.args.length cy)) :: K) s):=by
  exact RU
 have aZ:=hid (fun K s w=>E A z H K s w c);have aX:=hid (fun K s w=>a A aT cy K s w l);clear h E a c l Q;go_enter func271,ntmps271;go_wp2_with fail;refine (aZ _ _ _ aS N7).mono ?_;rintro e dk ⟨rfl,F⟩;have d:=hid F;clear F;go_wp2_with fail;refine (pW 12 d N7).mono ?_;rintro e w2 ⟨rfl,J⟩;have j:=hid J;clear J;obtain ⟨aH,az,aK,aW,bg, -⟩:=ep (j.has (fh _ (fh _ (fI ..))));go_wp2_with fail;refine (aX _ _ _ j N7).mono ?_;rintro e dC ⟨rfl,U⟩;have o:=hid U;clear U;clear aH az aK aW bg;go_wp2_with fail;refine (ju 22 0 0 o N7).mono ?_;rintro e dD ⟨rfl,aa⟩;have V:=hid aa;clear aa;go_wp2_with fail;refine (pW 11 V OD).mono ?_
 rintro e dJ ⟨rfl,aB⟩;have i:=hid aB;clear aB
 go_wp2_with (go_at_call 291;refine (pY (b:=dk.heap.size) (k:=(dL k x s).code.length) i Ob Ob OD OD).mono ?_;rintro e eD ⟨rfl,bj⟩;have b:=hid bj;clear bj)
 refine (ju 1 0 0 b OD).mono ?_;rintro e eP ⟨rfl,ar⟩;have t:=hid ar;clear ar
 go_wp2_with (go_at_call 291;refine (pY (b:=dD.heap.size) (k:=(eq 22 0 0 (dL k y (eG 12 0 (dL k x s)))).code.length) t Ob Ob OD OD).mono ?_;rintro e bw ⟨rfl,p⟩;have f:=hid p;clear p)
 go_end0;exact ⟨rfl,f.tail.tail.tail.tail.tail⟩
theorem MJ {w0:World} {k:Nat} {s:dE} (E:gy w0 R k x) (a:gy w0 R k y) (c:dx w0 A z x.args.length (es x.args)) (l:dx w0 A aT y.args.length (es y.args)) (h:dS w0 w R K s) (Q:(lT (dL k x) (dL k y) s).code.length<=1000000) :
 dw 272 #[dF R 0,.agg #[di x.op,di x.n,di x.m,di x.at_,.slice z x.args.length H],.agg #[di y.op,di y.n,di y.m,di y.at_,.slice aT y.args.length cy]] w fun e G=>e = .returned (.tuple #[])/\dS w0 G R K (lT (dL k x) (dL k y) s):=by
 have bB:=m2 k x s;have bH:=m2 k y (ge (dL k x s).code.length (eG 11 0 (eq 1 1 0 (eG 12 0 (dL k x s)))))
 have bG:(dL k y (ge (dL k x s).code.length (eG 11 0 (eq 1 1 0 (eG 12 0 (dL k x s)))))).code.length+1<=1000000:=by simp only [lT,fC,eQ,fS] at Q;omega
 simp only [fC,eQ,fS] at bH
 have aS:Hid (dS w0 ((w.alloc (fg x.op x.n x.m x.at_ z x.args.length H)).alloc (fg y.op y.n y.m y.at_ aT y.args.length cy)) R ((w.heap.size+1,(fg y.op y.n y.m y.at_ aT y.args.length cy)) :: K) s):=by
  exact RU
 have aZ:=hid (fun K s w=>E A z H K s w c);have aX:=hid (fun K s w=>a A aT cy K s w l);clear h E a c l Q;go_enter func272,ntmps272;go_wp2_with fail;refine (aZ _ _ _ aS N7).mono ?_;rintro e dk ⟨rfl,F⟩;have d:=hid F;clear F;go_wp2_with fail;refine (pW 12 d N7).mono ?_;rintro e w2 ⟨rfl,J⟩;have j:=hid J;clear J;go_wp2_with fail;refine (ju 1 1 0 j OD).mono ?_;rintro e dC ⟨rfl,U⟩;have o:=hid U;clear U;go_wp2_with fail;refine (pW 11 o OD).mono ?_;rintro e dD ⟨rfl,aa⟩;have V:=hid aa;clear aa
 go_wp2_with (go_at_call 291;refine (pY (b:=dk.heap.size) (k:=(dL k x s).code.length) V Ob Ob OD OD).mono ?_;rintro e dJ ⟨rfl,aB⟩;have i:=hid aB;clear aB;obtain ⟨aH,az,aK,aW,bg, -⟩:=ep (i.has (fh _ (fh _ (fh _ (fh _ (fI ..)))))))
 refine (aX _ _ _ i N7).mono ?_;rintro e eD ⟨rfl,bj⟩;have b:=hid bj;clear bj;clear aH az aK aW bg;go_wp2_with fail;refine (ju 22 0 0 b N7).mono ?_;rintro e eP ⟨rfl,ar⟩;have t:=hid ar;clear ar
 go_wp2_with (go_at_call 291;refine (pY (b:=dC.heap.size) (k:=(eq 1 1 0 (eG 12 0 (dL k x s))).code.length) t Ob Ob OD OD).mono ?_;rintro e bw ⟨rfl,p⟩;have f:=hid p;clear p)
 go_end0;exact ⟨rfl,f.tail.tail.tail.tail.tail⟩
abbrev nC (a b c e:Int) (f:OA) (g:List dB) (h:Nat):Obj:=fg a b c e f g.length h
theorem kP {w0:World} (an:dx w0 A ak l.length (es l)) (i:Nat) (V:i<l.length):∃ p C E a9,ak=some (dj p C)/\dx w0 A E (dq l i).args.length (es (dq l i).args)/\
 ∀ M,dm w0 M->M.cell? ⟨p,C+i*5,none⟩=some (di (dq l i).op)/\M.cell? ⟨p,C+i*5+1,none⟩=some (di (dq l i).n)/\M.cell? ⟨p,C+i*5+2,none⟩=some (di (dq l i).m)/\M.cell? ⟨p,C+i*5+3,none⟩=some (di (dq l i).at_)/\M.cell? ⟨p,C+i*5+4,none⟩=some (.slice E (dq l i).args.length a9):=by
 rw [j7 l i V];obtain ⟨p,C,E,a9,a7,S⟩:=an.nd i V;refine ⟨p,C,E,a9,a7,S.args',fun M ai=>⟨?_,?_,?_,?_,?_⟩⟩
 . exact (ai.cell (p:=(dj p _)) S.lt).trans S.c0
 . exact (ai.cell (p:=(dj p _)) S.lt).trans S.c1
 . exact (ai.cell (p:=(dj p _)) S.lt).trans S.c2
 . exact (ai.cell (p:=(dj p _)) S.lt).trans S.c3
 . exact (ai.cell (p:=(dj p _)) S.lt).trans S.c4
theorem kQ {w0:World} {k:Nat} (h:∀ y ∈ l,gy w0 R k y) (i:Nat) (V:i<l.length):gy w0 R k (dq l i):=by
 rw [j7 l i V];exact h _ (eb V)
theorem MK {w0:World} {k:Nat} {s:dE} {T m g:Int} (aw:∀ y ∈ O,gy w0 R k y) (an:dx w0 A ak O.length (es O)) (h:dS w0 w R K s) (ap:T=1) (Q:(eq 1 n 0 s).code.length<=1000000) :
 dw 216 #[dF R 0,.agg #[di T,di n,di m,di g,.slice ak O.length cp]] w fun e G=>e = .returned (.tuple #[])/\dS w0 G R K (eq 1 n 0 s):=by
 have aS:Hid (dS w0 (w.alloc (nC T n m g ak O cp)) R ((w.heap.size,(nC T n m g ak O cp)) :: K) s):=h.box (nC T n m g ak O cp);subst ap
 have f:s.code.length<=1000000:=O2
 clear h aw an;go_enter func216,ntmps216;go_wp2_with fail;refine (ju 1 n 0 aS f).mono ?_;exact QB
theorem ML {w0:World} {k:Nat} {s:dE} {T m g:Int} (aw:∀ y ∈ O,gy w0 R k y) (an:dx w0 A ak O.length (es O)) (h:dS w0 w R K s) (ap:T=2) (Q:(eq 18 0 0 s).code.length<=1000000) :
 dw 216 #[dF R 0,.agg #[di T,di n,di m,di g,.slice ak O.length cp]] w fun e G=>e = .returned (.tuple #[])/\dS w0 G R K (eq 18 0 0 s):=by
 have aS:Hid (dS w0 (w.alloc (nC T n m g ak O cp)) R ((w.heap.size,(nC T n m g ak O cp)) :: K) s):=h.box (nC T n m g ak O cp);subst ap
 have f:s.code.length<=1000000:=O2
 clear h aw an;go_enter func216,ntmps216;go_wp2_with fail;refine (ju 18 0 0 aS f).mono ?_;exact QB
theorem MM {w0:World} {k:Nat} {s:dE} {T m g:Int} (aw:∀ y ∈ O,gy w0 R k y) (an:dx w0 A ak O.length (es O)) (h:dS w0 w R K s) (ap:T=16) (Q:(eq 2 g 0 s).code.length<=1000000) :
 dw 216 #[dF R 0,.agg #[di T,di n,di m,di g,.slice ak O.length cp]] w fun e G=>e = .returned (.tuple #[])/\dS w0 G R K (eq 2 g 0 s):=by
 have aS:Hid (dS w0 (w.alloc (nC T n m g ak O cp)) R ((w.heap.size,(nC T n m g ak O cp)) :: K) s):=h.box (nC T n m g ak O cp);subst ap
 have f:s.code.length<=1000000:=O2
 clear h aw an;go_enter func216,ntmps216;go_wp2_with fail;refine (ju 2 g 0 aS f).mono ?_;exact QB
theorem MN {w0:World} {k:Nat} {s:dE} {T m g:Int} (aw:∀ y ∈ O,gy w0 R k y) (an:dx w0 A ak O.length (es O)) (h:dS w0 w R K s) (ap:T=3) (Q:(jL 3 m ⟨4,g,0⟩ s).code.length<=1000000) :
 dw 216 #[dF R 0,.agg #[di T,di n,di m,di g,.slice ak O.length cp]] w fun e G=>e = .returned (.tuple #[])/\dS w0 G R K (jL 3 m ⟨4,g,0⟩ s):=by
 have aS:Hid (dS w0 (w.alloc (nC T n m g ak O cp)) R ((w.heap.size,(nC T n m g ak O cp)) :: K) s):=h.box (nC T n m g ak O cp);subst ap
 have f:s.code.length<=1000000:=O2
 clear h aw an;go_enter func216,ntmps216;go_wp2_with fail;refine (tD 3 m 4 g 0 aS f).mono ?_;exact QB
theorem MO {w0:World} {k:Nat} {s:dE} {T m g:Int} (aw:∀ y ∈ O,gy w0 R k y) (an:dx w0 A ak O.length (es O)) (h:dS w0 w R K s) (ap:T=4) (X:O.length=1) (Q:(eq 7 0 0 (ix (dL k (dq O 0)) n m g s)).code.length<=1000000) :
 dw 216 #[dF R 0,.agg #[di T,di n,di m,di g,.slice ak O.length cp]] w fun e G=>e = .returned (.tuple #[])/\dS w0 G R K (eq 7 0 0 (ix (dL k (dq O 0)) n m g s)):=by
 have aS:Hid (dS w0 (w.alloc (nC T n m g ak O cp)) R ((w.heap.size,(nC T n m g ak O cp)) :: K) s):=h.box (nC T n m g ak O cp);subst ap
 have f:(dL k (dq O 0) s).code.length+1<=1000000:=by simp only [eQ,ix,hQ] at Q;omega
 obtain ⟨p,C,E,a9,rfl,aO,W⟩:=kP an 0 N7;simp only [gF,gQ] at W;have a4:=kQ aw 0 N7;generalize dq O 0=y at *;have aR:=hid aO;have aX:=hid a4
 have aQ:Hid (∀ M c,dS w0 M R ((w.heap.size,(fg 4 n m g (some (dj p C)) O.length cp)) :: K) c->M.cell? (dj w.heap.size 1)=some (di n)/\M.cell? (dj w.heap.size 2)=some (di m)/\M.cell? (dj w.heap.size 3)=some (di g)/\M.cell? (dj w.heap.size 4)=some (.slice (some (dj p C)) O.length cp)/\M.cell? (dj p C)=some (di y.op)/\M.cell? ⟨p,C+1,none⟩=some (di y.n)/\M.cell? ⟨p,C+2,none⟩=some (di y.m)/\M.cell? ⟨p,C+3,none⟩=some (di y.at_)/\M.cell? ⟨p,C+4,none⟩=some (.slice E y.args.length a9)):=fun M c ai=>by
  obtain ⟨aH,az,aK,aW,bg, -⟩:=ep ai.head;exact SH
 have b0:=hid aS.drew
 have bK:0<O.length:=N7
 clear h aw an aO a4 W X;go_enter func216,ntmps216;go_upto_region 13 with fail
 go_region_held (fun M=>M.cell? (dj w.heap.size 1)=some (di n)/\M.cell? (dj w.heap.size 2)=some (di m)/\M.cell? (dj w.heap.size 3)=some (di g)/\M.cell? (dj w.heap.size 4)=some (.slice (some (dj p C)) O.length cp)/\M.cell? (dj p C)=some (di y.op)/\M.cell? ⟨p,C+1,none⟩=some (di y.n)/\M.cell? ⟨p,C+2,none⟩=some (di y.m)/\M.cell? ⟨p,C+3,none⟩=some (di y.at_)/\M.cell? ⟨p,C+4,none⟩=some (.slice E y.args.length a9)) (first | with_reducible exact aQ.out _ _ aS.out | with_reducible exact aQ.out _ _ b0.out | with_reducible exact aQ.out _ _ d.out)
  (first
    | (go_at_call 215;refine (DE n m g aX aR b0 N7).mono ?_;rintro e dk ⟨rfl,F⟩;have d:=hid F;clear F))
 all_goals
  go_wp2_with fail;refine (ju 7 0 0 d (by simp only [ix,hQ];omega)).mono ?_;exact QG
theorem MP {w0:World} {k:Nat} {s:dE} {T m g:Int} (aw:∀ y ∈ O,gy w0 R k y) (an:dx w0 A ak O.length (es O)) (h:dS w0 w R K s) (ap:T=5) (Q:(jN (gh (dL k) O) m g s).code.length<=1000000) :
 dw 216 #[dF R 0,.agg #[di T,di n,di m,di g,.slice ak O.length cp]] w fun e G=>e = .returned (.tuple #[])/\dS w0 G R K (jN (gh (dL k) O) m g s):=by
 have aS:Hid (dS w0 (w.alloc (nC T n m g ak O cp)) R ((w.heap.size,(nC T n m g ak O cp)) :: K) s):=h.box (nC T n m g ak O cp);subst ap
 have f:(gh (dL k) O s).code.length<=1000000:=by simp only [jN,hQ] at Q;omega
 have ao:=hid (DF (q:=cp) m g aw an aS f);clear h aw an;go_enter func216,ntmps216;go_wp2_with fail;refine (ao).mono ?_;exact QB
theorem MQ {w0:World} {k:Nat} {s:dE} {T m g:Int} (aw:∀ y ∈ O,gy w0 R k y) (an:dx w0 A ak O.length (es O)) (h:dS w0 w R K s) (ap:T=6) (X:O.length=1) (Q:(eq 9 0 0 (dL k (dq O 0) s)).code.length<=1000000) :
 dw 216 #[dF R 0,.agg #[di T,di n,di m,di g,.slice ak O.length cp]] w fun e G=>e = .returned (.tuple #[])/\dS w0 G R K (eq 9 0 0 (dL k (dq O 0) s)):=by
 have aS:Hid (dS w0 (w.alloc (nC T n m g ak O cp)) R ((w.heap.size,(nC T n m g ak O cp)) :: K) s):=h.box (nC T n m g ak O cp);subst ap
 have f:(dL k (dq O 0) s).code.length<=1000000:=Pt
 obtain ⟨p,C,E,a9,rfl,aO,W⟩:=kP an 0 N7;simp only [gF,gQ] at W;have a4:=kQ aw 0 N7;generalize dq O 0=y at *;have ao:=hid (a4 A E a9 _ _ _ aO aS f);obtain ⟨bf,be,b9,bm,bk⟩:=W _ h.below
 have I:p<w.heap.size:=by
  exact QD
 have bK:0<O.length:=N7
 clear h aw an aO a4 W X;go_enter func216,ntmps216;go_wp2_with fail;refine (ao).mono ?_;rintro e dk ⟨rfl,F⟩;have d:=hid F;clear F;clear bf be b9 bm bk;go_wp2_with fail;refine (ju 9 0 0 d f).mono ?_;exact QG
theorem MR {w0:World} {k:Nat} {s:dE} {T m g:Int} (aw:∀ y ∈ O,gy w0 R k y) (an:dx w0 A ak O.length (es O)) (h:dS w0 w R K s) (ap:T=7) (X:O.length=2) (Q:(lR (dL k (dq O 0)) (dL k (dq O 1)) s).code.length<=1000000) :
 dw 216 #[dF R 0,.agg #[di T,di n,di m,di g,.slice ak O.length cp]] w fun e G=>e = .returned (.tuple #[])/\dS w0 G R K (lR (dL k (dq O 0)) (dL k (dq O 1)) s):=by
 have aS:Hid (dS w0 (w.alloc (nC T n m g ak O cp)) R ((w.heap.size,(nC T n m g ak O cp)) :: K) s):=h.box (nC T n m g ak O cp);subst ap;obtain ⟨p,C,E,a9,rfl,aO,W⟩:=kP an 0 N7;obtain ⟨aL,c0,a0,au,L,aF,hd⟩:=kP an 1 N7;cases L;simp only [gF,gQ] at W;simp only [nF] at hd;have a4:=kQ aw 0 N7;have b2:=kQ aw 1 N7;generalize dq O 0=y at *;generalize dq O 1=aX at *;have ao:=hid (MI (H:=a9) (cy:=au) a4 b2 aO aF aS.drew Q)
 have aQ:Hid (∀ M c,dS w0 M R ((w.heap.size,(fg 7 n m g (some (dj p C)) O.length cp)) :: K) c->M.cell? (dj w.heap.size 4)=some (.slice (some (dj p C)) O.length cp)/\M.cell? (dj p C)=some (di y.op)/\M.cell? ⟨p,C+1,none⟩=some (di y.n)/\M.cell? ⟨p,C+2,none⟩=some (di y.m)/\M.cell? ⟨p,C+3,none⟩=some (di y.at_)/\M.cell? ⟨p,C+4,none⟩=some (.slice E y.args.length a9)/\M.cell? ⟨p,C+5,none⟩=some (di aX.op)/\M.cell? ⟨p,C+5+1,none⟩=some (di aX.n)/\M.cell? ⟨p,C+5+2,none⟩=some (di aX.m)/\M.cell? ⟨p,C+5+3,none⟩=some (di aX.at_)/\M.cell? ⟨p,C+5+4,none⟩=some (.slice a0 aX.args.length au)):=fun M c ai=>by
  exact Ry
 have b0:=hid aS.drew
 have bK:1<O.length:=N7
 clear h aw an aO aF a4 b2 W hd X;go_enter func216,ntmps216;go_upto_region 21 with fail
 go_region_held (fun M=>M.cell? (dj w.heap.size 4)=some (.slice (some (dj p C)) O.length cp)/\M.cell? (dj p C)=some (di y.op)/\M.cell? ⟨p,C+1,none⟩=some (di y.n)/\M.cell? ⟨p,C+2,none⟩=some (di y.m)/\M.cell? ⟨p,C+3,none⟩=some (di y.at_)/\M.cell? ⟨p,C+4,none⟩=some (.slice E y.args.length a9)/\M.cell? ⟨p,C+5,none⟩=some (di aX.op)/\M.cell? ⟨p,C+5+1,none⟩=some (di aX.n)/\M.cell? ⟨p,C+5+2,none⟩=some (di aX.m)/\M.cell? ⟨p,C+5+3,none⟩=some (di aX.at_)/\M.cell? ⟨p,C+5+4,none⟩=some (.slice a0 aX.args.length au)) (first | with_reducible exact aQ.out _ _ aS.out | with_reducible exact aQ.out _ _ b0.out | with_reducible exact aQ.out _ _ d.out)
  (first
    | (go_at_call 271;refine ao.mono ?_;rintro e dk ⟨rfl,F⟩;have d:=hid F;clear F))
 all_goals
  go_wp2_with fail;go_end0;exact ⟨rfl,d.tail⟩
theorem MS {w0:World} {k:Nat} {s:dE} {T m g:Int} (aw:∀ y ∈ O,gy w0 R k y) (an:dx w0 A ak O.length (es O)) (h:dS w0 w R K s) (ap:T=8) (X:O.length=2) (Q:(lT (dL k (dq O 0)) (dL k (dq O 1)) s).code.length<=1000000) :
 dw 216 #[dF R 0,.agg #[di T,di n,di m,di g,.slice ak O.length cp]] w fun e G=>e = .returned (.tuple #[])/\dS w0 G R K (lT (dL k (dq O 0)) (dL k (dq O 1)) s):=by
 have aS:Hid (dS w0 (w.alloc (nC T n m g ak O cp)) R ((w.heap.size,(nC T n m g ak O cp)) :: K) s):=h.box (nC T n m g ak O cp);subst ap;obtain ⟨p,C,E,a9,rfl,aO,W⟩:=kP an 0 N7;obtain ⟨aL,c0,a0,au,L,aF,hd⟩:=kP an 1 N7;cases L;simp only [gF,gQ] at W;simp only [nF] at hd;have a4:=kQ aw 0 N7;have b2:=kQ aw 1 N7;generalize dq O 0=y at *;generalize dq O 1=aX at *;have ao:=hid (MJ (H:=a9) (cy:=au) a4 b2 aO aF aS.drew Q)
 have aQ:Hid (∀ M c,dS w0 M R ((w.heap.size,(fg 8 n m g (some (dj p C)) O.length cp)) :: K) c->M.cell? (dj w.heap.size 4)=some (.slice (some (dj p C)) O.length cp)/\M.cell? (dj p C)=some (di y.op)/\M.cell? ⟨p,C+1,none⟩=some (di y.n)/\M.cell? ⟨p,C+2,none⟩=some (di y.m)/\M.cell? ⟨p,C+3,none⟩=some (di y.at_)/\M.cell? ⟨p,C+4,none⟩=some (.slice E y.args.length a9)/\M.cell? ⟨p,C+5,none⟩=some (di aX.op)/\M.cell? ⟨p,C+5+1,none⟩=some (di aX.n)/\M.cell? ⟨p,C+5+2,none⟩=some (di aX.m)/\M.cell? ⟨p,C+5+3,none⟩=some (di aX.at_)/\M.cell? ⟨p,C+5+4,none⟩=some (.slice a0 aX.args.length au)):=fun M c ai=>by
  exact Ry
 have b0:=hid aS.drew
 have bK:1<O.length:=N7
 clear h aw an aO aF a4 b2 W hd X;go_enter func216,ntmps216;go_upto_region 23 with fail
 go_region_held (fun M=>M.cell? (dj w.heap.size 4)=some (.slice (some (dj p C)) O.length cp)/\M.cell? (dj p C)=some (di y.op)/\M.cell? ⟨p,C+1,none⟩=some (di y.n)/\M.cell? ⟨p,C+2,none⟩=some (di y.m)/\M.cell? ⟨p,C+3,none⟩=some (di y.at_)/\M.cell? ⟨p,C+4,none⟩=some (.slice E y.args.length a9)/\M.cell? ⟨p,C+5,none⟩=some (di aX.op)/\M.cell? ⟨p,C+5+1,none⟩=some (di aX.n)/\M.cell? ⟨p,C+5+2,none⟩=some (di aX.m)/\M.cell? ⟨p,C+5+3,none⟩=some (di aX.at_)/\M.cell? ⟨p,C+5+4,none⟩=some (.slice a0 aX.args.length au)) (first | with_reducible exact aQ.out _ _ aS.out | with_reducible exact aQ.out _ _ b0.out | with_reducible exact aQ.out _ _ d.out)
  (first
    | (go_at_call 272;refine ao.mono ?_;rintro e dk ⟨rfl,F⟩;have d:=hid F;clear F))
 all_goals
  go_wp2_with fail;go_end0;exact ⟨rfl,d.tail⟩
theorem MT {w0:World} {k:Nat} {s:dE} {T m g:Int} (aw:∀ y ∈ O,gy w0 R k y) (an:dx w0 A ak O.length (es O)) (h:dS w0 w R K s) (F:T≠1) (J:T≠2) (U:T≠16) (aa:T≠3) (aB:T≠4) (bj:T≠5) (ar:T≠6) (p:T≠7) (l:T≠8) (Q:(eq 10 T 0 (gh (dL k) O s)).code.length<=1000000) :
 dw 216 #[dF R 0,.agg #[di T,di n,di m,di g,.slice ak O.length cp]] w fun e G=>e = .returned (.tuple #[])/\dS w0 G R K (eq 10 T 0 (gh (dL k) O s)):=by
 have aS:Hid (dS w0 (w.alloc (nC T n m g ak O cp)) R ((w.heap.size,(nC T n m g ak O cp)) :: K) s):=h.box (nC T n m g ak O cp)
 have f:(gh (dL k) O s).code.length<=1000000:=Pt
 have ao:=hid (DD (q:=cp) aw an aS f);clear h aw an;go_enter func216,ntmps216;go_wp2_with fail;refine (ao).mono ?_;rintro e c ⟨rfl,a7⟩;have a:=hid a7;clear a7;obtain ⟨aH,az,aK,aW,bg, -⟩:=ep a.head;go_wp2_with fail;refine (ju 10 T 0 a f).mono ?_;rintro e d ⟨rfl,I⟩;have b:=hid I;clear I;go_wp2_with fail;go_end0;exact ⟨rfl,b.tail⟩
def vN (f:dB->dE->dE) (T n m g:Int) (O:List dB) (s:dE):dE:=
 if T=1 then eq 1 n 0 s
 else if T=2 then eq 18 0 0 s
 else if T=16 then eq 2 g 0 s
 else if T=3 then jL 3 m ⟨4,g,0⟩ s
 else if T=4 then eq 7 0 0 (ix (f (dq O 0)) n m g s)
 else if T=5 then jN (gh f O) m g s
 else if T=6 then eq 9 0 0 (f (dq O 0) s)
 else if T=7 then lR (f (dq O 0)) (f (dq O 1)) s
 else if T=8 then lT (f (dq O 0)) (f (dq O 1)) s
 else eq 10 T 0 (gh f O s)
theorem yK (k:Nat) (T n m g:Int) (O:List dB) (s:dE):dL (k+1) ⟨T,n,m,g,O⟩ s=vN (dL k) T n m g O s:=rfl
theorem DG {m g:Int} (h:eC c ⟨4,n,m,g,O⟩=true):O.length=1:=by
 simp [eC,dB.op,dB.args] at h;exact of_decide_eq_true h.1
theorem yL {T m g:Int} (h:eC c ⟨T,n,m,g,O⟩=true) (F:T≠1) (U:T≠16) (aa:T≠3) (aB:T≠4) (bj:T≠5):(O.length:Int)=kM T:=by
 simp [eC,dB.op,dB.args,F,U,aa,aB,bj] at h;exact of_decide_eq_true h.1
theorem DH {w0:World} {k:Nat} (S:eC c x=true) (aw:∀ y ∈ x.args,gy w0 R k y):gy w0 R (k+1) x:=by
 obtain ⟨T,n,m,g,O⟩:=x;intro A ak cp K s w an h Q;rw [yK] at Q ⊢;unfold vN at Q ⊢;simp only [dB.op,dB.n,dB.m,dB.at_,dB.args] at an aw ⊢
 by_cases aJ:T=1
 . rw [if_pos aJ] at Q ⊢;exact MK aw an h aJ Q
 rw [if_neg aJ] at Q ⊢
 by_cases aI:T=2
 . rw [if_pos aI] at Q ⊢;exact ML aw an h aI Q
 rw [if_neg aI] at Q ⊢
 by_cases bq:T=16
 . rw [if_pos bq] at Q ⊢;exact MM aw an h bq Q
 rw [if_neg bq] at Q ⊢
 by_cases bo:T=3
 . rw [if_pos bo] at Q ⊢;exact MN aw an h bo Q
 rw [if_neg bo] at Q ⊢
 by_cases t:T=4
 . rw [if_pos t] at Q ⊢
   subst t;exact MO aw an h rfl (DG S) Q
 rw [if_neg t] at Q ⊢
 by_cases am:T=5
 . rw [if_pos am] at Q ⊢;exact MP aw an h am Q
 rw [if_neg am] at Q ⊢;have X:=yL S aJ bq bo t am;unfold kM at X;rw [if_neg aI] at X
 by_cases a:T=6
 . rw [if_pos a] at Q ⊢
   rw [if_pos a] at X;exact MQ aw an h a N7 Q
 rw [if_neg a] at Q X ⊢
 by_cases b:T=7
 . rw [if_pos b] at Q ⊢
   rw [if_pos N7] at X;exact MR aw an h b N7 Q
 rw [if_neg b] at Q ⊢
 by_cases d:T=8
 . rw [if_pos d] at Q ⊢
   rw [if_pos N7] at X;exact MS aw an h d N7 Q
 rw [if_neg d] at Q ⊢;exact MT aw an h aJ aI bq bo t am a b d Q
theorem DI {w0:World}:∀ (k:Nat) (x:dB),eC c x=true->fO c k x.args=true->gy w0 R (k+1) x
 | 0,x,F,J=>DH F (fun y a4=>by
  simp only [fO,decide_eq_true_eq] at J;rw [hF J] at a4
  simp at a4)
 | k + 1,x,F,J=>DH F (fun y a4=>by
     simp only [fO,e1,dO] at J
     exact DI k y (J y a4).1 (J y a4).2)
abbrev aC (a b c e:Int) (f:OA) (g:List dB) (h:Nat) (i:OA) (j:List du) (k:Nat) (l:OA) (m:List du) (n:Nat):Obj:=ek a b c e f g.length h i j.length k l m.length n
def nU (w0:World) (R k:Nat) (y:du):Prop:=∀ (A:Nat->Prop) (E:OA) (a9:Nat) (a0:OA) (au:Nat) (a6:OA) (k3:Nat) (K:List (Nat × Obj)) (s:dE) (w:World),dx w0 A E y.args.length (es y.args)->dx w0 A a0 y.body.length (eJ y.body)->dx w0 A a6 y.other.length (eJ y.other)->dS w0 w R K s->(fj k y s).code.length<=1000000->
 dw 172 #[dF R 0,.agg #[di y.op,di y.n,di y.m,di y.at_,.slice E y.args.length a9,.slice a0 y.body.length au,.slice a6 y.other.length k3]] w fun e G=>e = .returned (.tuple #[])/\dS w0 G R K (fj k y s)
theorem tE {w0:World} {k:Nat} {s:dE} {l:List du} {a:OA} (aw:∀ y ∈ l,nU w0 R k y) (an:dx w0 A a l.length (eJ l)) (h:dS w0 w R K s) (Q:(eS (fj k) l s).code.length<=1000000) :
 dw 130 #[dF R 0,.slice a l.length q] w fun e G=>e = .returned (.tuple #[])/\dS w0 G R K (eS (fj k) l s):=by
 have bK:=an.bound;have b0:=hid an;have aS:=hid h;have aV:=hid aw;have z:=hid (fun j=>fZ (MF (fj k) (ll k) l s j) Q);clear an h aw Q;go_enter func130,ntmps130;go_wp2_with fail
 go_loopw [8] (fun i wr=>∃ j:Nat,j<=l.length/\i=di j/\dS w0 wr R K (eS (fj k) (l.take j) s)) (fun i _=>l.length - (intOf i).toNat)
 case atStart=>exact ⟨0,dY _,rfl,aS⟩
 case round=>
  obtain ⟨j,a2,rfl,aj⟩:=hrel;have d:=hid aj;clear aj
  by_cases ac:j<l.length
  . obtain ⟨p,C,E,a9,a0,au,a6,k3,rfl,S⟩:=b0.ac j ac
    have bb:p<wr.heap.size:=e4 S.lt d.below.size;have af:=(d.below.cell (p:=⟨p,C+j*7,none⟩) S.lt).trans S.c0;have a4:=(d.below.cell (p:=⟨p,C+j*7+1,none⟩) S.lt).trans S.c1;have am:=(d.below.cell (p:=⟨p,C+j*7+2,none⟩) S.lt).trans S.c2;have a5:=(d.below.cell (p:=⟨p,C+j*7+3,none⟩) S.lt).trans S.c3;have ax:=(d.below.cell (p:=⟨p,C+j*7+4,none⟩) S.lt).trans S.c4;have aG:=(d.below.cell (p:=⟨p,C+j*7+5,none⟩) S.lt).trans S.c5;have u:=(d.below.cell (p:=⟨p,C+j*7+6,none⟩) S.lt).trans S.c6;have aR:=hid (⟨S.args',S.body',S.other'⟩:_/\_/\_);have aX:=hid (aV l[j] (eb ac));have aM:=hid (fun h=>MC (fj k) l s j ac h);have aQ:=hid (fun h=>MD (fj k) l s j h);have n:=hid (z (j+1))
    clear S;generalize l[j]=x at *;have ag:=hid (d.box (ek x.op x.n x.m x.at_ E x.args.length a9 a0 x.body.length au a6 x.other.length k3));go_wp2_with fail;refine (DA ag).mono ?_
    cases Y:fN (eS (fj k) (l.take j) s) with
    | true=>
      rintro e dC ⟨rfl,rfl⟩;have c:=hid (aQ Y);clear Y;go_wp2_with fail
      go_returns
      exact ⟨rfl,by rw [c.out];exact ag.tail⟩
    | false=>
      rintro e dC ⟨rfl,rfl⟩;have ar:=hid (aM Y);rw [ar.out] at n;clear Y;go_wp2_with fail;refine (aX A E a9 a0 au a6 k3 K _ _ aR.1 aR.2.1 aR.2.2 ag.tail n).mono ?_;rintro e dD ⟨rfl,aa⟩;have V:=hid aa;clear aa;go_wp2_with fail;go_roundw
      case rel=>exact ⟨j+1,N7,Ou,by rw [ar.out];exact V⟩
      case measure=>simp [intOf];omega
  . exact Sj
theorem MU {w0:World} {k:Nat} {s:dE} {T m g:Int} {ac Z:List du} (aw:∀ y ∈ O,gy w0 R 6 y) (an:dx w0 A E O.length (es O)) (h:dS w0 w R K s) (X:O.length=1) (a1:m = -1) (Q:(eq 3 g 0 (dL 6 (dq O 0) s)).code.length<=1000000) :
 dw 214 #[dF R 0,.agg #[di T,di n,di m,di g,.slice E O.length a9,.slice a0 ac.length au,.slice a6 Z.length k3]] w fun e G=>e = .returned (.tuple #[])/\dS w0 G R K (eq 3 g 0 (dL 6 (dq O 0) s)):=by
 subst a1;have aS:Hid (dS w0 (w.alloc (ek T n (-1) g E O.length a9 a0 ac.length au a6 Z.length k3)) R ((w.heap.size,(ek T n (-1) g E O.length a9 a0 ac.length au a6 Z.length k3)) :: K) s):=h.box (ek T n (-1) g E O.length a9 a0 ac.length au a6 Z.length k3)
 have f:(dL 6 (dq O 0) s).code.length<=1000000:=O2
 obtain ⟨p,C,ak,a8,rfl,aO,W⟩:=kP an 0 N7;simp only [gF,gQ] at W;have a4:=kQ aw 0 N7;generalize dq O 0=y at *;obtain ⟨bf,be,b9,bm,bk⟩:=W _ h.below
 have I:p<w.heap.size:=by
  exact QD
 have bK:0<O.length:=N7
 have ao:=hid (a4 A ak a8 _ _ _ aO aS f);clear h aw an aO a4 W X;go_enter func214,ntmps214;go_wp2_with fail;refine (ao).mono ?_;rintro e dk ⟨rfl,F⟩;have d:=hid F;clear F;obtain ⟨aH,az,aK,aW,bg,q5,q6, -⟩:=fi d.head;clear bf be b9 bm bk;go_wp2_with fail;refine (ju 3 g 0 d f).mono ?_;rintro e w2 ⟨rfl,J⟩;have j:=hid J;clear J;go_wp2_with fail
 go_returns
 exact ⟨rfl,j.tail⟩
theorem MV {w0:World} {k:Nat} {s:dE} {T m g:Int} {ac Z:List du} (aw:∀ y ∈ O,gy w0 R 6 y) (an:dx w0 A E O.length (es O)) (h:dS w0 w R K s) (X:O.length=1) (a1:m≠-1) (Q:(jL 3 m ⟨5,g,0⟩ (dL 6 (dq O 0) s)).code.length<=1000000) :
 dw 214 #[dF R 0,.agg #[di T,di n,di m,di g,.slice E O.length a9,.slice a0 ac.length au,.slice a6 Z.length k3]] w fun e G=>e = .returned (.tuple #[])/\dS w0 G R K (jL 3 m ⟨5,g,0⟩ (dL 6 (dq O 0) s)):=by
 have aS:Hid (dS w0 (w.alloc (aC T n m g E O a9 a0 ac au a6 Z k3)) R ((w.heap.size,(aC T n m g E O a9 a0 ac au a6 Z k3)) :: K) s):=h.box (aC T n m g E O a9 a0 ac au a6 Z k3)
 have f:(dL 6 (dq O 0) s).code.length<=1000000:=O2
 obtain ⟨p,C,ak,a8,rfl,aO,W⟩:=kP an 0 N7;simp only [gF,gQ] at W;have a4:=kQ aw 0 N7;generalize dq O 0=y at *;obtain ⟨bf,be,b9,bm,bk⟩:=W _ h.below
 have I:p<w.heap.size:=by
  exact QD
 have bK:0<O.length:=N7
 have ao:=hid (a4 A ak a8 _ _ _ aO aS f);clear h aw an aO a4 W X;go_enter func214,ntmps214;go_wp2_with fail;refine (ao).mono ?_;rintro e dk ⟨rfl,F⟩;have d:=hid F;clear F;obtain ⟨aH,az,aK,aW,bg,q5,q6, -⟩:=fi d.head;clear bf be b9 bm bk;go_wp2_with fail;refine (tD 3 m 5 g 0 d f).mono ?_;exact QG
theorem MW {w0:World} {k:Nat} {s:dE} {T m g:Int} {ac Z:List du} (aw:∀ y ∈ O,gy w0 R 6 y) (an:dx w0 A E O.length (es O)) (h:dS w0 w R K s) (X:O.length=1) (aF:∀ y ∈ ac,nU w0 R k y) (f:dx w0 A a0 ac.length (eJ ac)) (Q:(ge (dL 6 (dq O 0) s).code.length (eS (fj k) ac (eG 12 0 (dL 6 (dq O 0) s)))).code.length<=1000000) :
 dw 218 #[dF R 0,.agg #[di T,di n,di m,di g,.slice E O.length a9,.slice a0 ac.length au,.slice a6 0 k3]] w fun e G=>e = .returned (.tuple #[])/\dS w0 G R K (ge (dL 6 (dq O 0) s).code.length (eS (fj k) ac (eG 12 0 (dL 6 (dq O 0) s)))):=by
 have aS:Hid (dS w0 (w.alloc (ek T n m g E O.length a9 a0 ac.length au a6 0 k3)) R ((w.heap.size,(ek T n m g E O.length a9 a0 ac.length au a6 0 k3)) :: K) s):=h.box (ek T n m g E O.length a9 a0 ac.length au a6 0 k3);have bB:=kO (ll k) ac (eG 12 0 (dL 6 (dq O 0) s));rw [fS] at bB
 have bp:(eS (fj k) ac (eG 12 0 (dL 6 (dq O 0) s))).code.length<=1000000:=by simp only [fC] at Q;omega
 obtain ⟨p,C,ak,a8,rfl,aO,W⟩:=kP an 0 N7;simp only [gF,gQ] at W;have a4:=kQ aw 0 N7;generalize dq O 0=y at *;obtain ⟨bf,be,b9,bm,bk⟩:=W _ h.below
 have I:p<w.heap.size:=by
  exact QD
 have bK:0<O.length:=N7
 have ao:=hid (a4 A ak a8 _ _ _ aO aS N7);have ag:=hid (fun (K:List (Nat × Obj)) (s:dE) (w:World)=>tE (w:=w) (K:=K) (s:=s) (q:=au) aF f);clear h aw an aO a4 W X aF f;go_enter func218,ntmps218;go_wp2_with fail;refine (ao).mono ?_;rintro e dk ⟨rfl,F⟩;have d:=hid F;clear F;clear bf be b9 bm bk;go_wp2_with fail;refine (pW 12 d N7).mono ?_;rintro e w2 ⟨rfl,J⟩;have j:=hid J;clear J;obtain ⟨aH,az,aK,aW,bg,q5,q6, -⟩:=fi (j.has (fh _ (fh _ (fI ..))));go_wp2_with fail;refine (ag _ _ _ j bp).mono ?_;rintro e dC ⟨rfl,U⟩;have o:=hid U;clear U;clear aH az aK aW bg q5 q6;obtain ⟨aH,az,aK,aW,bg,q5,q6, -⟩:=fi (o.has (fh _ (fh _ (fI ..))))
 go_wp2_with (go_at_call 291;refine (pY (b:=dk.heap.size) (k:=(dL 6 y s).code.length) o Ob Ob N7 bp).mono ?_;rintro e dD ⟨rfl,aa⟩;have V:=hid aa;clear aa)
 go_returns
 exact ⟨rfl,V.tail.tail.tail⟩
theorem MX {w0:World} {k:Nat} {s:dE} {T m g:Int} {ac Z:List du} (aw:∀ y ∈ O,gy w0 R 6 y) (an:dx w0 A E O.length (es O)) (h:dS w0 w R K s) (X:O.length=1) (aF:∀ y ∈ ac,nU w0 R k y) (f:dx w0 A a0 ac.length (eJ ac)) (b6:∀ y ∈ Z,nU w0 R k y) (l:dx w0 A a6 Z.length (eJ Z)) (aX:Z.length≠0) (Q:(ge (eS (fj k) ac (eG 12 0 (dL 6 (dq O 0) s))).code.length (eS (fj k) Z (ge (dL 6 (dq O 0) s).code.length (eG 11 0 (eS (fj k) ac (eG 12 0 (dL 6 (dq O 0) s))))))).code.length<=1000000) :
 dw 218 #[dF R 0,.agg #[di T,di n,di m,di g,.slice E O.length a9,.slice a0 ac.length au,.slice a6 Z.length k3]] w fun e G=>e = .returned (.tuple #[])/\dS w0 G R K (ge (eS (fj k) ac (eG 12 0 (dL 6 (dq O 0) s))).code.length (eS (fj k) Z (ge (dL 6 (dq O 0) s).code.length (eG 11 0 (eS (fj k) ac (eG 12 0 (dL 6 (dq O 0) s))))))):=by
 have aS:Hid (dS w0 (w.alloc (aC T n m g E O a9 a0 ac au a6 Z k3)) R ((w.heap.size,(aC T n m g E O a9 a0 ac au a6 Z k3)) :: K) s):=h.box (aC T n m g E O a9 a0 ac au a6 Z k3);have bB:=kO (ll k) ac (eG 12 0 (dL 6 (dq O 0) s));have bH:=kO (ll k) Z (ge (dL 6 (dq O 0) s).code.length (eG 11 0 (eS (fj k) ac (eG 12 0 (dL 6 (dq O 0) s)))));rw [fS] at bB;rw [fC,fS] at bH
 have bx:(eS (fj k) Z (ge (dL 6 (dq O 0) s).code.length (eG 11 0 (eS (fj k) ac (eG 12 0 (dL 6 (dq O 0) s)))))).code.length<=1000000:=by simp only [fC] at Q;omega
 have bp:(eS (fj k) ac (eG 12 0 (dL 6 (dq O 0) s))).code.length+1<=1000000:=N7
 obtain ⟨p,C,ak,a8,rfl,aO,W⟩:=kP an 0 N7;simp only [gF,gQ] at W;have a4:=kQ aw 0 N7;generalize dq O 0=y at *;obtain ⟨bf,be,b9,bm,bk⟩:=W _ h.below
 have I:p<w.heap.size:=by
  exact QD
 have bK:0<O.length:=N7
 have r:=l.bound;have ao:=hid (a4 A ak a8 _ _ _ aO aS N7);have ag:=hid (fun (K:List (Nat × Obj)) (s:dE) (w:World)=>tE (w:=w) (K:=K) (s:=s) (q:=au) aF f);have P:=hid (fun (K:List (Nat × Obj)) (s:dE) (w:World)=>tE (w:=w) (K:=K) (s:=s) (q:=k3) b6 l);clear h aw an aO a4 W X aF f b6 l;go_enter func218,ntmps218;go_wp2_with fail;refine (ao).mono ?_;rintro e dk ⟨rfl,F⟩;have d:=hid F;clear F;clear bf be b9 bm bk;go_wp2_with fail;refine (pW 12 d N7).mono ?_;rintro e w2 ⟨rfl,J⟩;have j:=hid J;clear J;obtain ⟨aH,az,aK,aW,bg,q5,q6, -⟩:=fi (j.has (fh _ (fh _ (fI ..))));go_wp2_with fail;refine (ag _ _ _ j N7).mono ?_;rintro e dC ⟨rfl,U⟩;have o:=hid U;clear U;clear aH az aK aW bg q5 q6
 obtain ⟨aH,az,aK,aW,bg,q5,q6, -⟩:=fi (o.has (fh _ (fh _ (fI ..))));go_wp2_with fail;refine (pW 11 o N7).mono ?_;rintro e dD ⟨rfl,aa⟩;have V:=hid aa;clear aa;clear aH az aK aW bg q5 q6
 go_wp2_with (go_at_call 291;refine (pY (b:=dk.heap.size) (k:=(dL 6 y s).code.length) V Ob Ob O6 O6).mono ?_;rintro e dJ ⟨rfl,aB⟩;have i:=hid aB;clear aB;obtain ⟨aH,az,aK,aW,bg,q5,q6, -⟩:=fi (i.has (fh _ (fh _ (fh _ (fh _ (fI ..)))))))
 refine (P _ _ _ i bx).mono ?_;rintro e eD ⟨rfl,bj⟩;have b:=hid bj;clear bj;clear aH az aK aW bg q5 q6
 go_wp2_with (go_at_call 291;refine (pY (b:=dC.heap.size) (k:=(eS (fj k) ac (eG 12 0 (dL 6 y s))).code.length) b Ob Ob N7 bx).mono ?_;rintro e eP ⟨rfl,ar⟩;have t:=hid ar;clear ar)
 go_end0;exact ⟨rfl,t.tail.tail.tail.tail.tail⟩
theorem MY {w0:World} {k:Nat} {s:dE} {T m g:Int} {ac Z:List du} (aw:∀ y ∈ O,gy w0 R 6 y) (an:dx w0 A E O.length (es O)) (h:dS w0 w R K s) (X:O.length=1) (aF:∀ y ∈ ac,nU w0 R k y) (f:dx w0 A a0 ac.length (eJ ac)) (Q:(ge (dL 6 (dq O 0) s).code.length (eG 11 s.code.length (eS (fj k) ac (eq 16 0 0 (eG 12 0 (dL 6 (dq O 0) s)))))).code.length<=1000000) :
 dw 219 #[dF R 0,.agg #[di T,di n,di m,di g,.slice E O.length a9,.slice a0 ac.length au,.slice a6 Z.length k3]] w fun e G=>e = .returned (.tuple #[])/\dS w0 G R K (ge (dL 6 (dq O 0) s).code.length (eG 11 s.code.length (eS (fj k) ac (eq 16 0 0 (eG 12 0 (dL 6 (dq O 0) s)))))):=by
 have aS:Hid (dS w0 (w.alloc (aC T n m g E O a9 a0 ac au a6 Z k3)) R ((w.heap.size,(aC T n m g E O a9 a0 ac au a6 Z k3)) :: K) s):=h.box (aC T n m g E O a9 a0 ac au a6 Z k3);have b0:=m2 6 (dq O 0) s;have bB:=kO (ll k) ac (eq 16 0 0 (eG 12 0 (dL 6 (dq O 0) s)));rw [eQ,fS] at bB
 have bp:(eS (fj k) ac (eq 16 0 0 (eG 12 0 (dL 6 (dq O 0) s)))).code.length+1<=1000000:=by simp only [fC,fS] at Q;omega
 obtain ⟨p,C,ak,a8,rfl,aO,W⟩:=kP an 0 N7;simp only [gF,gQ] at W;have a4:=kQ aw 0 N7;generalize dq O 0=y at *;obtain ⟨bf,be,b9,bm,bk⟩:=W _ h.below
 have I:p<w.heap.size:=by
  exact QD
 have bK:0<O.length:=N7
 have aP:=hid (so aS);have ao:=hid (a4 A ak a8 _ _ _ aO aS N7);have ag:=hid (fun (K:List (Nat × Obj)) (s:dE) (w:World)=>tE (w:=w) (K:=K) (s:=s) (q:=au) aF f);clear h aw an aO a4 W X aF f;go_enter func219,ntmps219;go_wp2_with fail;refine aP.mono ?_;rintro e ar ⟨rfl,rfl⟩;go_wp2_with fail;refine (ao).mono ?_;rintro e dk ⟨rfl,F⟩;have d:=hid F;clear F;clear bf be b9 bm bk;go_wp2_with fail;refine (pW 12 d N7).mono ?_;rintro e w2 ⟨rfl,J⟩;have j:=hid J;clear J;go_wp2_with fail;refine (ju 16 0 0 j O6).mono ?_;rintro e dC ⟨rfl,U⟩;have o:=hid U;clear U;obtain ⟨aH,az,aK,aW,bg,q5,q6, -⟩:=fi (o.has (fh _ (fh _ (fI ..))));go_wp2_with fail
 refine (ag _ _ _ o N7).mono ?_;rintro e dD ⟨rfl,aa⟩;have V:=hid aa;clear aa;clear aH az aK aW bg q5 q6;go_wp2_with fail;refine (DC 11 s.code.length V N7).mono ?_;rintro e dJ ⟨rfl,aB⟩;have i:=hid aB;clear aB
 go_wp2_with (go_at_call 291;refine (pY (b:=dk.heap.size) (k:=(dL 6 y s).code.length) i Ob Ob O6 O6).mono ?_;rintro e eD ⟨rfl,bj⟩;have b:=hid bj;clear bj)
 go_end0;exact ⟨rfl,b.tail.tail.tail⟩
theorem MZ {w0:World} {m g:Int} {ac Z:List du} {s':dE} (ao:Hid (dw 214 #[dF R 0,.agg #[di 1,di n,di m,di g,.slice E O.length a9,.slice a0 ac.length au,.slice a6 Z.length k3]] (w.alloc (ek 1 n m g E O.length a9 a0 ac.length au a6 Z.length k3)) fun e G=>e = .returned (.tuple #[])/\dS w0 G R ((w.heap.size,(ek 1 n m g E O.length a9 a0 ac.length au a6 Z.length k3)) :: K) s')) :
 dw 172 #[dF R 0,.agg #[di 1,di n,di m,di g,.slice E O.length a9,.slice a0 ac.length au,.slice a6 Z.length k3]] w fun e G=>e = .returned (.tuple #[])/\dS w0 G R K s':=by
 go_enter func172,ntmps172;go_wp2_with fail;refine (ao).mono ?_;exact QB
theorem M0 {w0:World} {m g:Int} {ac Z:List du} {s':dE} (ao:Hid (dw 218 #[dF R 0,.agg #[di 4,di n,di m,di g,.slice E O.length a9,.slice a0 ac.length au,.slice a6 Z.length k3]] (w.alloc (ek 4 n m g E O.length a9 a0 ac.length au a6 Z.length k3)) fun e G=>e = .returned (.tuple #[])/\dS w0 G R ((w.heap.size,(ek 4 n m g E O.length a9 a0 ac.length au a6 Z.length k3)) :: K) s')) :
 dw 172 #[dF R 0,.agg #[di 4,di n,di m,di g,.slice E O.length a9,.slice a0 ac.length au,.slice a6 Z.length k3]] w fun e G=>e = .returned (.tuple #[])/\dS w0 G R K s':=by
 go_enter func172,ntmps172;go_wp2_with fail;refine (ao).mono ?_;exact QB
theorem M1 {w0:World} {m g:Int} {ac Z:List du} {s':dE} (ao:Hid (dw 219 #[dF R 0,.agg #[di 5,di n,di m,di g,.slice E O.length a9,.slice a0 ac.length au,.slice a6 Z.length k3]] (w.alloc (ek 5 n m g E O.length a9 a0 ac.length au a6 Z.length k3)) fun e G=>e = .returned (.tuple #[])/\dS w0 G R ((w.heap.size,(ek 5 n m g E O.length a9 a0 ac.length au a6 Z.length k3)) :: K) s')) :
 dw 172 #[dF R 0,.agg #[di 5,di n,di m,di g,.slice E O.length a9,.slice a0 ac.length au,.slice a6 Z.length k3]] w fun e G=>e = .returned (.tuple #[])/\dS w0 G R K s':=by
 go_enter func172,ntmps172;go_wp2_with fail;refine (ao).mono ?_;exact QB
theorem M2 {w0:World} {k:Nat} {s:dE} {m g:Int} {ac Z:List du} (aw:∀ y ∈ O,gy w0 R 6 y) (an:dx w0 A E O.length (es O)) (h:dS w0 w R K s) (X:O.length=1) (Q:(eq 15 0 0 (dL 6 (dq O 0) s)).code.length<=1000000) :
 dw 172 #[dF R 0,.agg #[di 6,di n,di m,di g,.slice E O.length a9,.slice a0 ac.length au,.slice a6 Z.length k3]] w fun e G=>e = .returned (.tuple #[])/\dS w0 G R K (eq 15 0 0 (dL 6 (dq O 0) s)):=by
 have aS:Hid (dS w0 (w.alloc (ek 6 n m g E O.length a9 a0 ac.length au a6 Z.length k3)) R ((w.heap.size,(ek 6 n m g E O.length a9 a0 ac.length au a6 Z.length k3)) :: K) s):=h.box (ek 6 n m g E O.length a9 a0 ac.length au a6 Z.length k3)
 have f:(dL 6 (dq O 0) s).code.length<=1000000:=Pt
 obtain ⟨p,C,ak,a8,rfl,aO,W⟩:=kP an 0 N7;simp only [gF,gQ] at W;have a4:=kQ aw 0 N7;generalize dq O 0=y at *;obtain ⟨bf,be,b9,bm,bk⟩:=W _ h.below
 have I:p<w.heap.size:=by
  exact QD
 have bK:0<O.length:=N7
 have ao:=hid (a4 A ak a8 _ _ _ aO aS f);clear h aw an aO a4 W X;go_enter func172,ntmps172;go_wp2_with fail;refine (ao).mono ?_;rintro e dk ⟨rfl,F⟩;have d:=hid F;clear F;clear bf be b9 bm bk;go_wp2_with fail;refine (ju 15 0 0 d f).mono ?_;exact QG
theorem M3 {w0:World} {k:Nat} {s:dE} {m g:Int} {ac Z:List du} (aw:∀ y ∈ O,gy w0 R 6 y) (an:dx w0 A E O.length (es O)) (h:dS w0 w R K s) (X:O.length=1) (Q:(eq 19 0 0 (dL 6 (dq O 0) s)).code.length<=1000000) :
 dw 172 #[dF R 0,.agg #[di 7,di n,di m,di g,.slice E O.length a9,.slice a0 ac.length au,.slice a6 Z.length k3]] w fun e G=>e = .returned (.tuple #[])/\dS w0 G R K (eq 19 0 0 (dL 6 (dq O 0) s)):=by
 have aS:Hid (dS w0 (w.alloc (ek 7 n m g E O.length a9 a0 ac.length au a6 Z.length k3)) R ((w.heap.size,(ek 7 n m g E O.length a9 a0 ac.length au a6 Z.length k3)) :: K) s):=h.box (ek 7 n m g E O.length a9 a0 ac.length au a6 Z.length k3)
 have f:(dL 6 (dq O 0) s).code.length<=1000000:=Pt
 obtain ⟨p,C,ak,a8,rfl,aO,W⟩:=kP an 0 N7;simp only [gF,gQ] at W;have a4:=kQ aw 0 N7;generalize dq O 0=y at *;obtain ⟨bf,be,b9,bm,bk⟩:=W _ h.below
 have I:p<w.heap.size:=by
  exact QD
 have bK:0<O.length:=N7
 have ao:=hid (a4 A ak a8 _ _ _ aO aS f);clear h aw an aO a4 W X;go_enter func172,ntmps172;go_wp2_with fail;refine (ao).mono ?_;rintro e dk ⟨rfl,F⟩;have d:=hid F;clear F;clear bf be b9 bm bk;go_wp2_with fail;refine (ju 19 0 0 d f).mono ?_;exact QG
theorem M4 {w0:World} {k:Nat} {s:dE} {m g:Int} {ac Z:List du} (aw:∀ y ∈ O,gy w0 R 6 y) (an:dx w0 A E O.length (es O)) (h:dS w0 w R K s) (Q:(eq 17 0 0 (jN (gh (dL 6) O) m g s)).code.length<=1000000) :
 dw 172 #[dF R 0,.agg #[di 3,di n,di m,di g,.slice E O.length a9,.slice a0 ac.length au,.slice a6 Z.length k3]] w fun e G=>e = .returned (.tuple #[])/\dS w0 G R K (eq 17 0 0 (jN (gh (dL 6) O) m g s)):=by
 have aS:Hid (dS w0 (w.alloc (ek 3 n m g E O.length a9 a0 ac.length au a6 Z.length k3)) R ((w.heap.size,(ek 3 n m g E O.length a9 a0 ac.length au a6 Z.length k3)) :: K) s):=h.box (ek 3 n m g E O.length a9 a0 ac.length au a6 Z.length k3)
 have f:(gh (dL 6) O s).code.length+1<=1000000:=by simp only [eQ,jN,hQ] at Q;omega
 have ao:=hid (DF (q:=a9) m g aw an aS N7);clear h aw an;go_enter func172,ntmps172;go_wp2_with fail;refine (ao).mono ?_;rintro e dk ⟨rfl,F⟩;have d:=hid F;clear F;go_wp2_with fail;refine (ju 17 0 0 d (by simp only [jN,hQ];omega)).mono ?_;exact QG
theorem M5 {w0:World} {k:Nat} {s:dE} {m g:Int} {ac Z:List du} (aw:∀ y ∈ O,gy w0 R 6 y) (an:dx w0 A E O.length (es O)) (h:dS w0 w R K s) (X:O.length=2) (Q:(eq 8 0 0 (dL 6 (dq O 1) (ix (dL 6 (dq O 0)) n m g s))).code.length<=1000000) :
 dw 172 #[dF R 0,.agg #[di 2,di n,di m,di g,.slice E O.length a9,.slice a0 ac.length au,.slice a6 Z.length k3]] w fun e G=>e = .returned (.tuple #[])/\dS w0 G R K (eq 8 0 0 (dL 6 (dq O 1) (ix (dL 6 (dq O 0)) n m g s))):=by
 have aS:Hid (dS w0 (w.alloc (ek 2 n m g E O.length a9 a0 ac.length au a6 Z.length k3)) R ((w.heap.size,(ek 2 n m g E O.length a9 a0 ac.length au a6 Z.length k3)) :: K) s):=h.box (ek 2 n m g E O.length a9 a0 ac.length au a6 Z.length k3);have bB:=m2 6 (dq O 1) (ix (dL 6 (dq O 0)) n m g s)
 have bp:(dL 6 (dq O 1) (ix (dL 6 (dq O 0)) n m g s)).code.length<=1000000:=Pt
 have bG:(dL 6 (dq O 0) s).code.length<=1000000:=by simp only [ix,hQ] at bB bp;omega
 obtain ⟨p,C,ak,a8,rfl,aO,W⟩:=kP an 0 N7;obtain ⟨aL,c0,b4,aj,L,aF,hd⟩:=kP an 1 N7;cases L;simp only [gF,gQ] at W;simp only [nF] at hd;have a4:=kQ aw 0 N7;have b2:=kQ aw 1 N7;generalize dq O 0=y at *;generalize dq O 1=aX at *;have ao:=hid (DE (cp:=a8) n m g a4 aO aS.drew bG);have b6:=hid (fun (M:World) (h:dS w0 M R ((w.heap.size,(ek 2 n m g (some (dj p C)) O.length a9 a0 ac.length au a6 Z.length k3)) :: K) (ix (dL 6 y) n m g s))=>b2 A b4 aj _ _ M aF h bp)
 have aQ:Hid (∀ M c,dS w0 M R ((w.heap.size,(ek 2 n m g (some (dj p C)) O.length a9 a0 ac.length au a6 Z.length k3)) :: K) c->M.cell? (dj w.heap.size 1)=some (di n)/\M.cell? (dj w.heap.size 2)=some (di m)/\M.cell? (dj w.heap.size 3)=some (di g)/\M.cell? (dj w.heap.size 4)=some (.slice (some (dj p C)) O.length a9)/\M.cell? (dj p C)=some (di y.op)/\M.cell? ⟨p,C+1,none⟩=some (di y.n)/\M.cell? ⟨p,C+2,none⟩=some (di y.m)/\M.cell? ⟨p,C+3,none⟩=some (di y.at_)/\M.cell? ⟨p,C+4,none⟩=some (.slice ak y.args.length a8)):=fun M c ai=>by
  obtain ⟨aH,az,aK,aW,bg,q5,q6, -⟩:=fi ai.head;exact SH
 have aU:Hid (∀ M c,dS w0 M R ((w.heap.size,(ek 2 n m g (some (dj p C)) O.length a9 a0 ac.length au a6 Z.length k3)) :: K) c->M.cell? (dj w.heap.size 4)=some (.slice (some (dj p C)) O.length a9)/\M.cell? ⟨p,C+5,none⟩=some (di aX.op)/\M.cell? ⟨p,C+5+1,none⟩=some (di aX.n)/\M.cell? ⟨p,C+5+2,none⟩=some (di aX.m)/\M.cell? ⟨p,C+5+3,none⟩=some (di aX.at_)/\M.cell? ⟨p,C+5+4,none⟩=some (.slice b4 aX.args.length aj)):=fun M c ai=>by
  obtain ⟨aH,az,aK,aW,bg,q5,q6, -⟩:=fi ai.head;obtain ⟨bf,be,b9,bm,bk⟩:=hd M ai.below;exact ⟨bg,bf,be,b9,bm,bk⟩
 have b0:=hid aS.drew
 have bK:1<O.length:=N7
 clear h aw an aO aF a4 b2 W hd X;go_enter func172,ntmps172;go_upto_region 5 with fail
 go_region_held (fun M=>M.cell? (dj w.heap.size 1)=some (di n)/\M.cell? (dj w.heap.size 2)=some (di m)/\M.cell? (dj w.heap.size 3)=some (di g)/\M.cell? (dj w.heap.size 4)=some (.slice (some (dj p C)) O.length a9)/\M.cell? (dj p C)=some (di y.op)/\M.cell? ⟨p,C+1,none⟩=some (di y.n)/\M.cell? ⟨p,C+2,none⟩=some (di y.m)/\M.cell? ⟨p,C+3,none⟩=some (di y.at_)/\M.cell? ⟨p,C+4,none⟩=some (.slice ak y.args.length a8)) (first | with_reducible exact aQ.out _ _ aS.out | with_reducible exact aQ.out _ _ b0.out | with_reducible exact aQ.out _ _ d.out)
  (first
    | (go_at_call 215;refine ao.mono ?_;rintro e dk ⟨rfl,F⟩;have d:=hid F;clear F))
 all_goals
  obtain ⟨bg,bf,be,b9,bm,bk⟩:=aU _ _ d;go_wp2_with fail;refine (b6 _ d).mono ?_;rintro e w2 ⟨rfl,J⟩;have j:=hid J;clear J bg bf be b9 bm bk;go_wp2_with fail;refine (ju 8 0 0 j bp).mono ?_;rintro e dC ⟨rfl,U⟩;have o:=hid U;clear U;go_wp2_with fail;go_end0;exact ⟨rfl,o.tail⟩
def vO (f:du->dE->dE) (T n m g:Int) (O:List dB) (ac Z:List du) (s:dE):dE:=
 if T=1 then oY (dL 6 (dq O 0)) m g s
 else if T=2 then eq 8 0 0 (dL 6 (dq O 1) (ix (dL 6 (dq O 0)) n m g s))
 else if T=3 then eq 17 0 0 (jN (gh (dL 6) O) m g s)
 else if T=4 then mx (dL 6 (dq O 0)) (eS f ac) (eS f Z) Z.isEmpty s
 else if T=5 then nT (dL 6 (dq O 0)) (eS f ac) s
 else if T=6 then eq 15 0 0 (dL 6 (dq O 0) s)
 else if T=7 then eq 19 0 0 (dL 6 (dq O 0) s)
 else s
theorem yM (k:Nat) (T n m g:Int) (O:List dB) (ac Z:List du) (s:dE):fj (k+1) ⟨T,n,m,g,O,ac,Z⟩ s=vO (fj k) T n m g O ac Z s:=rfl
theorem yN {T m g:Int} {ac Z:List du} (h:eF c ⟨T,n,m,g,O,ac,Z⟩=true):(1<=T/\T<=7)/\(T=2->O.length=2)/\(T≠2->T≠3->O.length=1):=by
 unfold eF at h
 by_cases aJ:T=1
 . subst aJ
   simp [du.op,du.args] at h;exact ⟨N9,fun h=>absurd h N9,fun _ _=>of_decide_eq_true h.1⟩
 by_cases aI:T=2
 . subst aI
   simp [du.op,du.args] at h;exact ⟨N9,fun _=>of_decide_eq_true h.1,fun h=>absurd rfl h⟩
 by_cases bq:T=3
 . subst bq
   exact ⟨N9,fun h=>absurd h N9,fun _ h=>absurd rfl h⟩
 by_cases bo:4<=T/\T<=7
 . simp [du.op,du.args,aJ,aI,bq,bo] at h
   exact ⟨N7,fun h=>absurd h aI,fun _ _=>of_decide_eq_true h.1⟩
 . simp [du.op,du.args,aJ,aI,bq,bo] at h
theorem M6 {w0:World} {k:Nat} {x:du} (S:eF c x=true) (aw:∀ y ∈ x.args,gy w0 R 6 y) (aF:∀ y ∈ x.body,nU w0 R k y) (b6:∀ y ∈ x.other,nU w0 R k y):nU w0 R (k+1) x:=by
 obtain ⟨T,n,m,g,O,ac,Z⟩:=x;intro A E a9 a0 au a6 k3 K s w an f l h Q;obtain ⟨⟨bE,d⟩,j,P⟩:=yN S;rw [yM] at Q ⊢;unfold vO at Q ⊢;simp only [du.op,du.n,du.m,du.at_,du.args,du.body,du.other] at an f l aw aF b6 ⊢
 by_cases aJ:T=1
 . rw [if_pos aJ] at Q ⊢
   subst aJ;unfold oY at Q ⊢;refine MZ ?_
   by_cases a1:m = -1
   . rw [if_pos a1] at Q ⊢;exact MU (k:=0) aw an (h.box _) (P N9 N9) a1 Q
   . rw [if_neg a1] at Q ⊢;exact MV (k:=0) aw an (h.box _) (P N9 N9) a1 Q
 rw [if_neg aJ] at Q ⊢
 by_cases aI:T=2
 . rw [if_pos aI] at Q ⊢
   subst aI;exact M5 (k:=0) aw an h (j rfl) Q
 rw [if_neg aI] at Q ⊢
 by_cases bq:T=3
 . rw [if_pos bq] at Q ⊢
   subst bq;exact M4 (k:=0) aw an h Q
 rw [if_neg bq] at Q ⊢;have X:=P aI bq
 by_cases bo:T=4
 . rw [if_pos bo] at Q ⊢
   subst bo;refine M0 ?_;unfold mx at Q ⊢
   cases Z with
   | nil=>exact MW (Z:=[]) aw an (h.box _) X aF f Q
   | cons o r=>exact MX aw an (h.box _) X aF f b6 l Ob Q
 rw [if_neg bo] at Q ⊢
 by_cases t:T=5
 . rw [if_pos t] at Q ⊢
   subst t;exact M1 (MY aw an (h.box _) X aF f Q)
 rw [if_neg t] at Q ⊢
 by_cases am:T=6
 . rw [if_pos am] at Q ⊢
   subst am;exact M2 (k:=0) aw an h X Q
 rw [if_neg am] at Q ⊢
 by_cases a:T=7
 . rw [if_pos a] at Q ⊢
   subst a;exact M3 (k:=0) aw an h X Q
 . omega
theorem vP {w0:World}:∀ (k:Nat) (l:List du),fb c k l=true->∀ y ∈ l,nU w0 R k y
 | 0,l,h=>by simp [fb] at h
 | k + 1,l,h=>fun y a4=>by
   simp only [fb,dO,e1] at h;obtain ⟨F,J,U⟩:=h.2 y a4
   have aw:∀ aX ∈ y.args,gy w0 R 6 aX:=fun aX b2=>by
    rw [show fO c 6 y.args=y.args.all (fun x=>eC c x&&fO c 5 x.args) from rfl,e1] at J;have aa:=J aX b2;rw [dO] at aa;exact DI 5 aX aa.1 aa.2
   have nil:∀ (q:List du),q.length=0->∀ aX ∈ q,nU w0 R k aX:=fun q b3 aX b2=>by
    rw [hF b3] at b2;simp at b2
   refine M6 F aw ?_ ?_
   . split at U
     . exact vP k _ (dO .. ▸ U).1
     . split at U
       . exact vP k _ (dO .. ▸ U).1
       . simp only [dO,decide_eq_true_eq] at U
         exact nil _ U.1
   . split at U
     . exact vP k _ (dO .. ▸ U).2
     . split at U
       . simp only [dO,decide_eq_true_eq] at U
         exact nil _ U.2
       . simp only [dO,decide_eq_true_eq] at U
         exact nil _ U.2
def nV:Nat->Nat
 | 0=>0
 | k+1=>3*nV k+4
theorem yO {f:dB->dE->dE}:∀ (l:List dB),(∀ y ∈ l,∀ s,(f y s).code.length<=s.code.length+g)->∀ s,(gh f l s).code.length<=s.code.length+l.length*g
 | [],_,s=>by simp [gh]
 | x :: r,h,s=>by
   have F:=h x (fI ..) s;have J:=yO r (fun y a4=>h y (fh _ a4)) (f x s);show (gh f r (f x s)).code.length<=_;simp only [gY,Nat.add_mul,nF];omega
def tF (c:Ck):Prop:=∀ m g k:Int,f6 c m g k=true->k<=3
theorem M7 (W:tF c) (h:eC c x=true):x.args.length<=3:=by
 obtain ⟨T,n,m,g,O⟩:=x;show O.length<=3
 by_cases aJ:T=1
 . subst aJ;exact SK
 by_cases bq:T=16
 . subst bq;exact SK
 by_cases bo:T=3
 . subst bo;exact SK
 by_cases t:T=4
 . subst t;have:=DG h;omega
 by_cases am:T=5
 . subst am
   simp [eC,dB.op,dB.args,dB.m,dB.at_] at h;have:=W _ _ _ h.2;omega
 have X:=yL h aJ bq bo t am;unfold kM at X
 split at X
 . omega
 . split at X
   . omega
   . split at X<;>omega
theorem M8 (W:tF c):∀ (k:Nat) (x:dB),eC c x=true->fO c k x.args=true->∀ s,(dL (k+1) x s).code.length<=s.code.length+nV (k+1):=by
 have A:∀ (k:Nat) (x:dB),eC c x=true->(∀ y ∈ x.args,∀ s,(dL k y s).code.length<=s.code.length+nV k)->∀ s,(dL (k+1) x s).code.length<=s.code.length+nV (k+1):=by
  intro k x S aw s;have X:=M7 W S;obtain ⟨T,n,m,g,O⟩:=x
  have aO:∀ i s,(dL k (dq O i) s).code.length<=s.code.length+nV k:=fun i s=>by
   by_cases V:i<O.length
   . rw [j7 _ _ V];exact aw _ (eb V) s
   . have:dq O i=yH:=by simp [dq,fV,mL (Nat.le_of_not_lt V)]
     rw [this]
     cases k with
     | zero=>exact Nat.le_add_right ..
     | succ k=>
       show (eq 10 0 0 (gh (dL k) [] s)).code.length<=_;rw [eQ];show s.code.length+1<=s.code.length+(3*nV k+4);omega
  have aS:=yO (f:=dL k) (g:=nV k) O aw s;have a1:O.length*nV k<=3*nV k:=uR _ X;have ab:=aO 0 s;have F:=aO 1 (eG 12 0 (dL k (dq O 0) s));have J:=aO 1 (ge (dL k (dq O 0) s).code.length (eG 11 0 (eq 1 1 0 (eG 12 0 (dL k (dq O 0) s)))));rw [yK];unfold vN;simp only [nV];simp only [fC,fS,eQ] at F J
  repeat' split
  all_goals (simp only [eQ,hQ,ix,jN,lR,lT,fC,fS];omega)
 intro k
 induction k with
 | zero=>intro x F J;exact A 0 x F (fun y a4 s=>Nat.le_add_right ..)
 | succ k ay=>
   exact Rl
theorem vQ {f:du->dE->dE}:∀ (l:List du),(∀ y ∈ l,∀ s,(f y s).code.length<=max s.code.length 2048+g)->∀ s,(eS f l s).code.length<=max s.code.length (2048+g)
 | [],_,s=>Nat.le_max_left ..
 | x :: r,h,s=>by
   have F:=h x (fI ..) s;have J:=vQ r (fun y a4=>h y (fh _ a4));show (eS f r (if fN s=true then s else f x s)).code.length<=_;split
   . exact J s
   . rename_i Y
     have:=J (f x s);unfold fN at Y;simp only [decide_eq_true_eq] at Y;omega
theorem DJ {k:Nat} {l:List du} (h:fb c (k+1) l=true) {y:du} (a4:y ∈ l):eF c y=true/\fO c 6 y.args=true/\(fb c k y.body=true\/y.body.length=0)/\(fb c k y.other=true\/y.other.length=0):=by
 simp only [fb,dO,e1] at h;obtain ⟨F,J,U⟩:=h.2 y a4;refine ⟨F,J,?_⟩
 split at U
 . rw [dO] at U;exact ⟨Or.inl U.1,Or.inl U.2⟩
 . split at U
   . rw [dO] at U;exact ⟨Or.inl U.1,Or.inr (of_decide_eq_true U.2)⟩
   . rw [dO] at U;exact ⟨Or.inr (of_decide_eq_true U.1),Or.inr (of_decide_eq_true U.2)⟩
theorem yP (W:tF c):∀ (k:Nat) (l:List du),fb c k l=true->∀ y ∈ l,∀ s,(fj k y s).code.length<=max s.code.length 2048+5000*k
 | 0,l,h=>by simp [fb] at h
 | k + 1,l,h=>fun y a4 s=>by
   obtain ⟨F,J,U,aa⟩:=DJ h a4;obtain ⟨T,n,m,g,O,ac,Z⟩:=y;obtain ⟨⟨bE,d⟩,j,P⟩:=yN F;simp only [du.args,du.body,du.other] at J U aa
   have aw:∀ aX ∈ O,∀ s,(dL 6 aX s).code.length<=s.code.length+1456:=fun aX b2 s=>by
    rw [show fO c 6 O=O.all (fun x=>eC c x&&fO c 5 x.args) from rfl,e1] at J;have aB:=J aX b2;rw [dO] at aB;exact M8 W 5 aX aB.1 aB.2 s
   have aO:∀ i,i<O.length->∀ s,(dL 6 (dq O i) s).code.length<=s.code.length+1456:=fun i V s=>by
    rw [j7 _ _ V];exact aw _ (eb V) s
   have nil:∀ (q:List du),q.length=0->∀ s,(eS (fj k) q s).code.length<=max s.code.length (2048+5000*k):=fun q b3 s=>by
    rw [hF b3];exact Nat.le_max_left ..
   have aF:∀ s,(eS (fj k) ac s).code.length<=max s.code.length (2048+5000*k):=by
    rcases U with U | U
    . exact vQ _ (yP W k _ U)
    . exact nil _ U
   have b6:∀ s,(eS (fj k) Z s).code.length<=max s.code.length (2048+5000*k):=by
    rcases aa with aa | aa
    . exact vQ _ (yP W k _ aa)
    . exact nil _ aa
   rw [yM];unfold vO
   by_cases bq:T=3
   . subst bq
     have aA:O.length<=3:=by
      simp [eF,du.op,du.args,du.m,du.at_] at F;have:=W _ _ _ F.2;omega
     have aB:=yO (f:=dL 6) (g:=1456) O aw s;have bj:O.length*1456<=3*1456:=uR _ aA;simp only [show ¬ ((3:Int)=1) from N9,show ¬ ((3:Int)=2) from N9,if_true,if_false,eQ,jN,hQ];omega
   have bK:0<O.length:=by
    exact ST
   have ab:=aO 0 bK s;have bt:=aF (eG 12 0 (dL 6 (dq O 0) s));have bv:=b6 (ge (dL 6 (dq O 0) s).code.length (eG 11 0 (eS (fj k) ac (eG 12 0 (dL 6 (dq O 0) s)))));have aR:=aF (eq 16 0 0 (eG 12 0 (dL 6 (dq O 0) s)));simp only [fC,fS,eQ] at bt bv aR
   by_cases aI:T=2
   . subst aI
     have ar:=aO 1 (by have:=j rfl;omega) (ix (dL 6 (dq O 0)) n m g s);simp only [show ¬ ((2:Int)=1) from N9,if_true,if_false,eQ];simp only [ix,hQ] at ar ⊢;omega
   repeat' split
   all_goals first
    | omega
    | (simp only [eQ,oY,mx,nT];omega)
    | (unfold oY;split<;>simp only [eQ,hQ]<;>omega)
    | (unfold mx;split<;>simp only [fC]<;>omega)
    | (unfold nT;simp only [fC,fS];omega)
theorem DK (W:tF c) (p:e5) (h:fb c 6 p.body=true) (s:dE):(iK p s).code.length<=max s.code.length 32048+3:=by
 have:=vQ p.body (yP W 6 p.body h) (eq 14 p.params p.locals s);simp only [eQ] at this;simp only [iK,eQ];omega
theorem DL {w0:World} {s:dE} {p:e5} {a:OA} (aA:fb c 6 p.body=true) (an:dx w0 A a p.body.length (eJ p.body)) (h:dS w0 w R K s) (Q:(iK p s).code.length<=1000000) :
 dw 79 #[dF R 0,.agg #[di p.params,di p.locals,.slice a p.body.length q]] w fun e G=>e = .returned (.tuple #[])/\dS w0 G R K (iK p s):=by
 have aS:Hid (dS w0 (w.alloc (jA p.params p.locals a p.body.length q)) R ((w.heap.size,jA p.params p.locals a p.body.length q) :: K) s):=h.box _;have bB:=kO (ll 6) p.body (eq 14 p.params p.locals s)
 have bp:(eS (fj 6) p.body (eq 14 p.params p.locals s)).code.length+2<=1000000:=by simp only [iK,eQ] at Q;omega
 rw [eQ] at bB;have ag:=hid (fun (K:List (Nat × Obj)) (s:dE) (w:World)=>tE (w:=w) (K:=K) (s:=s) (q:=q) (vP (w0:=w0) (R:=R) 6 p.body aA) an);clear h aA an;go_enter func79,ntmps79;go_wp2_with fail;refine (ju 14 p.params p.locals aS N7).mono ?_;rintro e dk ⟨rfl,F⟩;have d:=hid F;clear F;obtain ⟨aH,az,aK, -⟩:=nP d.head;go_wp2_with fail;refine (ag _ _ _ d N7).mono ?_;rintro e w2 ⟨rfl,J⟩;have j:=hid J;clear J aH az aK;go_wp2_with fail;refine (ju 1 0 0 j N7).mono ?_;rintro e dC ⟨rfl,U⟩;have o:=hid U;clear U;go_wp2_with fail;refine (ju 15 0 0 o (by rw [eQ];omega)).mono ?_;rintro e dD ⟨rfl,aa⟩;have V:=hid aa;clear aa;go_wp2_with fail;go_end0;exact ⟨rfl,V.tail⟩
def gL (m g n:Int):Bool:=decide (n=1/\g=512)||j6 512 g n
def gz (m g k:Int):Bool:=decide (0<=g/\g<6)&&decide (k<=3)
theorem M9 (m g n:Int) (w:World) (a7:(Lit.int .i64 g).wf=true) (F:1<=n) (J:n<=32) :
 dw 327 #[.agg #[],di m,di g,di n] w fun e G=>e = .returned (.bool (gL m g n))/\dm w G:=by
 by_cases b8:n=1
 . by_cases b7:g=512
   . have z:Hid (gL m g n=true):=by show _=_;unfold gL;rw [decide_eq_true ⟨b8,b7⟩];rfl
     subst b8;subst b7;clear a7 F J;go_enter func327,ntmps327;exact Qz
   . have z:Hid (gL m g n=j6 512 g n):=by show _=_;unfold gL;rw [decide_eq_false (fun h=>b7 h.2)];rfl
     have b2:=hid (tq 512 g n (w.alloc (.cells #[] 133)) N9 N9 F J a7);subst b8;clear a7 F J;go_enter func327,ntmps327;go_wp2_with fail;refine b2.mono ?_;rintro e dk ⟨rfl,rfl⟩;exact Sd
 . have z:Hid (gL m g n=j6 512 g n):=by show _=_;unfold gL;rw [decide_eq_false (fun h=>b8 h.1)];rfl
   have b2:=hid (tq 512 g n (w.alloc (.cells #[] 133)) N9 N9 F J a7);clear a7 F J;go_enter func327,ntmps327;go_wp2_with fail;refine b2.mono ?_;rintro e dk ⟨rfl,rfl⟩;exact Qz
theorem Na (m g:Int) (k:Nat) (w:World) :
 dw 328 #[.agg #[],di m,di g,di k] w fun e G=>e = .returned (.bool (gz m g k))/\dm w G:=by
 by_cases b8:0<=g
 . by_cases b7:g<6
   . have z:Hid (gz m g k=decide ((k:Int)<=3)):=by show _=_;unfold gz;rw [decide_eq_true ⟨b8,b7⟩];rfl
     go_enter func328,ntmps328;exact Qz
   . have z:Hid (gz m g k=false):=by show _=_;unfold gz;rw [decide_eq_false (fun h=>b7 h.2)];rfl
     have t:6<=g:=N7
     clear b7;go_enter func328,ntmps328;exact Qz
 . have z:Hid (gz m g k=false):=by show _=_;unfold gz;rw [decide_eq_false (fun h=>b8 h.1)];rfl
   have l:g<0:=N7
   clear b8;go_enter func328,ntmps328;exact Qz
theorem Nb (w:World) (u:dN) (d:Int):mV w (fP u gL gz d) 327 328 (.agg #[]):=
 ⟨fun M _ m g n _ a7 F J=>M9 m g n M a7 F J,fun M _ m g k _ _ _=>Na m g k M⟩
theorem Nc (u:dN) (a4:OA) (ad:Nat) (am:OA) (f:Nat) (a5:OA) (y3:Nat) (w:World) (b3:kN w u a4 ad am f a5 y3) :
 dw 77 #[.agg #[.string u.name,.slice a4 u.uses.length ad,di u.data,.slice am u.parts.length f,.slice a5 u.main.length y3],.iface 133 (.agg #[])] w fun e G=>e = .returned (.bool (hf u gL gz))/\dm w G:=
 C1 u gL gz a4 ad am f a5 y3 133 (.agg #[]) w b3 (fun al d M ai=>by
  have hd:=oU al
  exact KP (fP u gL gz d) u.name a4 ad am f a5 u.main.length y3 M hd.1 hd.2 (b3.later ai).uses.bound (b3.later ai).parts (Nb M u d))
structure dP where
 name:ByteArray
 uses:List ByteArray
 data:Int
 code:List eK
 fixes:List gd
 entries:List Int
 main:Int
def kR:dE:=⟨[],[]⟩
def f7 (l:List e5):dE:=l.foldl (fun s D=>iK D s) kR
def pZ (l:List e5):List Int:=(List.range l.length).map (fun i=>((f7 (l.take i)).code.length:Int))
def e9 (u:dN):dE:=iK ⟨0,0,u.main⟩ (f7 u.parts)
def eg (u:dN):dP:=⟨u.name,u.uses,u.data,(e9 u).code,(e9 u).fixes,pZ u.parts,(f7 u.parts).code.length⟩
def iy (u:dN):Except Int dP:=
 if (Go.Lib.containsS u.uses u.name || !hf u gL gz)=true then .error 1
 else if fN (e9 u)=true then .error 2
 else .ok (eg u)
theorem yQ (l:List e5) (j:Nat) (h:j<l.length):f7 (l.take (j+1))=iK l[j] (f7 (l.take j)):=by
 rw [gn h];unfold f7;rw [lG]
 rfl
def p0 (l:List e5) (j:Nat):List Int:=(List.range j).map (fun i=>((f7 (l.take i)).code.length:Int))
theorem Nd (l:List e5) (j:Nat):p0 l (j+1)=p0 l j++[((f7 (l.take j)).code.length:Int)]:=by
 unfold p0;rw [xv,j2]
 rfl
theorem nW (l:List e5) (j:Nat):(p0 l j).length=j:=by simp [p0]
theorem kS {c a:Int->Int->Int->Bool} (h:hf u c a=true):(∀ D ∈ u.parts,fb (fP u c a (D.params+D.locals)) 6 D.body=true)/\fb (fP u c a 0) 6 u.main=true/\gb u=true:=by
 unfold hf at h;simp only [dO,e1] at h;exact ⟨h.2.1,h.2.2,h.1⟩
theorem DM (h:gb u=true) (d:Int):tF (fP u gL gz d):=fun m g k N=>by
 unfold f6 at N
 split at N
 . unfold ij at N
   rw [dO] at N;obtain ⟨_,J⟩:=N;unfold gb at h;simp only [dO,e1] at h;simp only [fP] at J
   cases b3:u.parts[g.toNat]? with
   | none=>rw [b3] at J;cases J
   | some D=>
     rw [b3] at J;have U:=of_decide_eq_true J;have aa:=h.2.1 D (qz b3);unfold iG at aa;rw [dO] at aa;have aB:=of_decide_eq_true aa.1;omega
 . rw [dO] at N
   simp only [fP,gz,dO] at N;exact of_decide_eq_true N.2.2
theorem yR (h:hf u gL gz=true):∀ j,j<=u.parts.length->(f7 (u.parts.take j)).code.length<=32051+3*j
 | 0,_=>by simp [f7,kR]
 | j+1,a2=>by
   have F:=yR h j N7;obtain ⟨aA,_,al⟩:=kS h;have J:=DK (DM al _) u.parts[j] (aA _ (eb N7)) (f7 (u.parts.take j));rw [yQ _ _ N7];omega
theorem qW (h:gb u=true):u.parts.length<=6:=by
 unfold gb at h;simp only [dO] at h;exact of_decide_eq_true h.2.2.2
theorem vR (h:hf u gL gz=true):(e9 u).code.length<=33000:=by
 obtain ⟨_,a1,al⟩:=kS h;have F:=yR h u.parts.length (dA _);rw [gu] at F;have J:=qW al;have U:=DK (DM al 0) ⟨0,0,u.main⟩ a1 (f7 u.parts);unfold e9;omega
end Go.Proofs.YtndkhgakfodldaaGreatDoor

namespace Go.Proofs.YtndkhgakfodldaaGreatDoor
structure ey where
 i:eK
 k:Int
 m:Int
def eL (T a b:Int):ey:=⟨⟨T,a,b⟩,0,0⟩
def eN (T:Int) (a:Nat):ey:=⟨⟨T,a,0⟩,1,0⟩
def hu (k m T a b:Int):ey:=⟨⟨T,a,b⟩,k,m⟩
def gV:Nat->List ey->List gd
 | _,[]=>[]
 | n,x :: r=>if x.k=0 then gV (n+1) r else ⟨n,x.k,x.m⟩:: gV (n+1) r
def fk (s:dE) (l:List ey):dE:=⟨s.code++l.map ey.i,s.fixes++gV s.code.length l⟩
theorem tG:∀ (n:Nat) (a p:List ey),gV n (a++p)=gV n a++gV (n+a.length) p
 | n,[],p=>by simp [gV]
 | n,x :: r,p=>by
   have ay:=tG (n+1) r p;rw [xr,gV,gV,ay,gY,show n+1+r.length=n+(r.length+1) by omega]
   split<;>simp
theorem sr (s:dE):fk s []=s:=by simp [fk,gV]
theorem j8 (s:dE) (l:List ey):(fk s l).code.length=s.code.length+l.length:=by simp [fk]
theorem gq (s:dE) (a b:List ey):fk (fk s a) b=fk s (a++b):=by
 simp [fk,tG]
theorem j9 (T a b:Int) (s:dE):eq T a b s=fk s [eL T a b]:=by simp [eq,fk,eL,gV]
theorem ss (k m T a b:Int) (N:k≠0) (s:dE):jL k m ⟨T,a,b⟩ s=fk s [hu k m T a b]:=by simp [jL,fk,hu,gV,N]
theorem DN (T:Int) (t:Nat) (s:dE):eG T t s=fk s [eN T t]:=by simp [eG,jL,fk,eN,gV]
theorem tH (T:Int) (s:dE):eG T 0 s=fk s [eN T 0]:=DN T 0 s
theorem yS {α:Type} (f:α->α):∀ (a:List α) (x:α) (p:List α),(a++x :: p).modify a.length f=a++f x :: p
 | [],x,p=>rfl
 | y :: a,x,p=>by
   rw [xr,gY,List.modify_succ_cons,yS f a x p]
   rfl
theorem p1 (s:dE) (a b:List ey) (T:Int) (t k n:Nat) (N:k=s.code.length+a.length) (Z:n=s.code.length+(a.length+1+b.length)):ge k (fk s (a++eN T t :: b))=fk s (a++eN T n :: b):=by
 have F:∀ m:Nat,(fk s (a++eN T m :: b)).code=(s.code++a.map ey.i)++(⟨T,m,0⟩:eK) :: b.map ey.i:=fun m=>by simp [fk,eN]
 have J:k=(s.code++a.map ey.i).length:=by simp [N]
 have U:(fk s (a++eN T t :: b)).code.length=n:=by rw [j8,Z];simp;omega
 unfold ge;rw [U,F,J,yS];show dE.mk ((s.code++a.map ey.i)++(⟨T,n,0⟩:eK) :: b.map ey.i) _=_;rw [← F n];unfold fk;simp only [tG,gV,eN]
def iL (f:dB->Nat->List ey):List dB->Nat->List ey
 | [],_=>[]
 | x :: r,n=>f x n++iL f r (n+(f x n).length)
def tI (a b:List ey) (n:Nat):List ey:=a++eN 12 (n+a.length+1+b.length+2) :: (b++[eL 22 0 0,eN 11 (n+a.length+1+b.length+3),eL 1 0 0])
def tJ (a b:List ey) (n:Nat):List ey:=a++eN 12 (n+a.length+3) :: eL 1 1 0 :: eN 11 (n+a.length+3+b.length+1) :: (b++[eL 22 0 0])
def dW:Nat->dB->Nat->List ey
 | 0,_,_=>[]
 | k+1,x,n=>
   if x.op=1 then [eL 1 x.n 0]
   else if x.op=2 then [eL 18 0 0]
   else if x.op=16 then [eL 2 x.at_ 0]
   else if x.op=3 then [hu 3 x.m 4 x.at_ 0]
   else if x.op=4 then dW k (dq x.args 0) n++[hu 3 x.m 6 x.at_ x.n,eL 7 0 0]
   else if x.op=5 then iL (dW k) x.args n++[hu 2 x.m 13 x.at_ 0]
   else if x.op=6 then dW k (dq x.args 0) n++[eL 9 0 0]
   else if x.op=7 then tI (dW k (dq x.args 0) n) (dW k (dq x.args 1) (n+(dW k (dq x.args 0) n).length+1)) n
   else if x.op=8 then tJ (dW k (dq x.args 0) n) (dW k (dq x.args 1) (n+(dW k (dq x.args 0) n).length+3)) n
   else iL (dW k) x.args n++[eL 10 x.op 0]
theorem vS {f:dB->dE->dE} {g:dB->Nat->List ey} (h:∀ x s,f x s=fk s (g x s.code.length)):∀ (l:List dB) (s:dE),gh f l s=fk s (iL g l s.code.length)
 | [],s=>(sr s).symm
 | x :: r,s=>by
   have ay:=vS h r (f x s);show gh f r (f x s)=_;rw [ay,h x s,gq,j8]
   rfl
theorem Nf {f g:dE->dE} {a:List ey} {b:Nat->List ey} (s:dE) (Y:f s=fk s a) (ak:∀ s,g s=fk s (b s.code.length)):lR f g s=fk s (tI a (b (s.code.length+a.length+1)) s.code.length):=by
 unfold lR;simp only [Y,tH,gq,ak,j9,j8];generalize I:b (s.code.length+(a++[eN 12 0]).length)=aL
 have aB:b (s.code.length+a.length+1)=aL:=by rw [← I];simp [ie]
 rw [aB];rw [show a++[eN 12 0]++aL++[eL 22 0 0]++[eN 11 0]=a++eN 12 0 :: (aL++[eL 22 0 0,eN 11 0]) by simp];rw [p1 s a _ 12 0 _ (s.code.length+a.length+1+aL.length+2) rfl Of,gq];generalize S:eN 12 (s.code.length+a.length+1+aL.length+2)=x;rw [show a++x :: (aL++[eL 22 0 0,eN 11 0])++[eL 1 0 0]=(a++x :: (aL++[eL 22 0 0]))++eN 11 0 :: [eL 1 0 0] by simp];rw [p1 s _ _ 11 0 _ (s.code.length+a.length+1+aL.length+3) Ob Of,← S];unfold tI;simp
theorem Ng {f g:dE->dE} {a:List ey} {b:Nat->List ey} (s:dE) (Y:f s=fk s a) (ak:∀ s,g s=fk s (b s.code.length)):lT f g s=fk s (tJ a (b (s.code.length+a.length+3)) s.code.length):=by
 unfold lT;simp only [Y,tH,gq,j9,j8];rw [show a++[eN 12 0]++[eL 1 1 0]++[eN 11 0]=a++eN 12 0 :: [eL 1 1 0,eN 11 0] by simp];rw [p1 s a _ 12 0 _ (s.code.length+a.length+3) rfl Of,ak,j8,gq,gq];rw [show s.code.length+(a++eN 12 (s.code.length+a.length+3) :: [eL 1 1 0,eN 11 0]).length=s.code.length+a.length+3 by simp;omega];generalize b (s.code.length+a.length+3)=aL;generalize S:eN 12 (s.code.length+a.length+3)=x;rw [show a++x :: [eL 1 1 0,eN 11 0]++(aL++[eL 22 0 0])=(a++x :: [eL 1 1 0])++eN 11 0 :: (aL++[eL 22 0 0]) by simp];rw [p1 s _ _ 11 0 _ (s.code.length+a.length+3+aL.length+1) Ob Of,← S];unfold tJ;simp
theorem DO:∀ (k:Nat) (x:dB) (s:dE),dL k x s=fk s (dW k x s.code.length)
 | 0,_,s=>(sr s).symm
 | k+1,x,s=>by
   have ay:=DO k;unfold dL dW;split
   . exact j9 ..
   split
   . exact j9 ..
   split
   . exact j9 ..
   split
   . exact ss 3 _ _ _ _ N9 s
   split
   . rw [j9,ix,ss 3 _ _ _ _ N9,ay,gq,gq];rfl
   split
   . rw [jN,ss 2 _ _ _ _ N9,vS ay,gq]
   split
   . rw [j9,ay,gq]
   split
   . exact Nf s (ay _ s) (ay _)
   split
   . exact Ng s (ay _ s) (ay _)
   . rw [j9,vS ay,gq]
def hT (f:du->Nat->List ey):List du->Nat->List ey
 | [],_=>[]
 | x :: r,n=>f x n++hT f r (n+(f x n).length)
def vT (e:List ey) (m g:Int):List ey:=e++[if m = -1 then eL 3 g 0 else hu 3 m 5 g 0]
def qX (e b o:List ey) (a:Bool) (n:Nat):List ey:=
 if a=true then e++eN 12 (n+e.length+1+b.length) :: b
 else e++eN 12 (n+e.length+1+b.length+1) :: (b++eN 11 (n+e.length+1+b.length+1+o.length) :: o)
def nX (e b:List ey) (n:Nat):List ey:=e++eN 12 (n+e.length+2+b.length+1) :: eL 16 0 0 :: (b++[eN 11 n])
def e3:Nat->du->Nat->List ey
 | 0,_,_=>[]
 | k+1,a,n=>
   if a.op=1 then vT (dW 6 (dq a.args 0) n) a.m a.at_
   else if a.op=2 then dW 6 (dq a.args 0) n++hu 3 a.m 6 a.at_ a.n :: (dW 6 (dq a.args 1) (n+(dW 6 (dq a.args 0) n).length+1)++[eL 8 0 0])
   else if a.op=3 then iL (dW 6) a.args n++[hu 2 a.m 13 a.at_ 0,eL 17 0 0]
   else if a.op=4 then qX (dW 6 (dq a.args 0) n) (hT (e3 k) a.body (n+(dW 6 (dq a.args 0) n).length+1)) (hT (e3 k) a.other (n+(dW 6 (dq a.args 0) n).length+1+(hT (e3 k) a.body (n+(dW 6 (dq a.args 0) n).length+1)).length+1)) a.other.isEmpty n
   else if a.op=5 then nX (dW 6 (dq a.args 0) n) (hT (e3 k) a.body (n+(dW 6 (dq a.args 0) n).length+2)) n
   else if a.op=6 then dW 6 (dq a.args 0) n++[eL 15 0 0]
   else if a.op=7 then dW 6 (dq a.args 0) n++[eL 19 0 0]
   else []
def lp (p:e5) (n:Nat):List ey:=eL 14 p.params p.locals :: (hT (e3 6) p.body (n+1)++[eL 1 0 0,eL 15 0 0])
theorem nY {s t:dE} (h:s.code.length<=t.code.length) (ax:fN t=false):fN s=false:=by
 unfold fN at *;have:=of_decide_eq_false ax;exact decide_eq_false N7
def oZ (f:dE->dE) (g:Nat->List ey):Prop:=∀ s,fN (f s)=false->f s=fk s (g s.code.length)
theorem tK {f:du->dE->dE} {g:du->Nat->List ey} (a1:∀ x,ht (f x)):∀ (l:List du),(∀ x ∈ l,oZ (f x) (g x))->oZ (eS f l) (hT g l)
 | [],_,s,_=>(sr s).symm
 | x :: r,h,s,Y=>by
   have ab:fN s=false:=nY (kO a1 (x :: r) s) Y
   have e:eS f (x :: r) s=eS f r (f x s):=by
    show eS f r (if fN s=true then s else f x s)=_;rw [if_neg (by rw [ab];decide)]
   rw [e] at Y ⊢;have F:fN (f x s)=false:=nY (kO a1 r (f x s)) Y;have J:=h x (fI ..) s F;rw [J] at Y ⊢;rw [tK a1 r (fun y a4=>h y (fh _ a4)) _ Y,gq,j8]
   rfl
theorem Nh {f g h:dE->dE} {e:Nat->List ey} {b o:Nat->List ey} (a:Bool) (Y:∀ s,f s=fk s (e s.code.length)) (ak:oZ g b) (l:ht g) (al:oZ h o) (k:ht h) :
 oZ (mx f g h a) (fun n=>qX (e n) (b (n+(e n).length+1)) (o (n+(e n).length+1+(b (n+(e n).length+1)).length+1)) a n):=fun s C=>by
 show _=fk s (qX (e s.code.length) (b (s.code.length+(e s.code.length).length+1)) (o (s.code.length+(e s.code.length).length+1+(b (s.code.length+(e s.code.length).length+1)).length+1)) a s.code.length);generalize Z:s.code.length=n;generalize ar:e n=E
 have F:f s=fk s E:=by rw [Y,Z,ar]
 have J:eG 12 0 (f s)=fk s (E++[eN 12 0]):=by rw [F,tH,gq]
 have j:(eG 12 0 (f s)).code.length=n+E.length+1:=by rw [J,j8,Z];simp [ie]
 have c:(f s).code.length=n+E.length:=by rw [F,j8,Z]
 have d:fN (g (eG 12 0 (f s)))=false:=by
  refine nY ?_ C;unfold mx;simp only;split
  . rw [fC];exact dA _
  . rw [fC]
    refine fZ ?_ (k _);rw [fC,fS];omega
 have U:g (eG 12 0 (f s))=fk s (E++[eN 12 0]++b (n+E.length+1)):=by rw [ak _ d,j,J,gq]
 generalize b (n+E.length+1)=B at *;unfold mx qX at *;simp only at C ⊢
 cases a with
 | true=>
   simp only [if_true] at C ⊢;rw [U,c,show E++[eN 12 0]++B=E++eN 12 0 :: B by simp,p1 s E B 12 0 _ (n+E.length+1+B.length) (by rw [Z]) (by rw [Z];omega)]
 | false=>
   simp only [qA,if_false] at C ⊢;rw [U,c,tH,gq,show E++[eN 12 0]++B++[eN 11 0]=E++eN 12 0 :: (B++[eN 11 0]) by simp,p1 s E (B++[eN 11 0]) 12 0 _ (n+E.length+1+B.length+1) (by rw [Z]) (by rw [Z];simp;omega)] at C ⊢;generalize S:eN 12 (n+E.length+1+B.length+1)=x at *;have i:fN (h (fk s (E++x :: (B++[eN 11 0]))))=false:=nY (by rw [fC];exact dA _) C;have aa:=al _ i;rw [j8,Z,show n+(E++x :: (B++[eN 11 0])).length=n+E.length+1+B.length+1 by simp;omega] at aa;rw [aa,gq];generalize o (n+E.length+1+B.length+1)=O;rw [show E++x :: (B++[eN 11 0])++O=(E++x :: B)++eN 11 0 :: O by simp];rw [p1 s _ O 11 0 _ (n+E.length+1+B.length+1+O.length) (by rw [j8,Z];simp) (by rw [Z];simp;omega)]
   simp
theorem Ni {f g:dE->dE} {e:Nat->List ey} {b:Nat->List ey} (Y:∀ s,f s=fk s (e s.code.length)) (ak:oZ g b) :
 oZ (nT f g) (fun n=>nX (e n) (b (n+(e n).length+2)) n):=fun s C=>by
 show _=fk s (nX (e s.code.length) (b (s.code.length+(e s.code.length).length+2)) s.code.length);generalize Z:s.code.length=n;generalize ar:e n=E
 have F:f s=fk s E:=by rw [Y,Z,ar]
 have J:eq 16 0 0 (eG 12 0 (f s))=fk s (E++eN 12 0 :: [eL 16 0 0]):=by rw [F,tH,j9,gq,gq];simp
 have c:(f s).code.length=n+E.length:=by rw [F,j8,Z]
 have d:fN (g (eq 16 0 0 (eG 12 0 (f s))))=false:=by
  refine nY ?_ C;unfold nT;simp only;rw [fC,fS];omega
 have U:g (eq 16 0 0 (eG 12 0 (f s)))=fk s (E++eN 12 0 :: [eL 16 0 0]++b (n+E.length+2)):=by
  rw [ak _ d,J,j8,Z,gq,show n+(E++eN 12 0 :: [eL 16 0 0]).length=n+E.length+2 by simp;omega]
 generalize b (n+E.length+2)=B at *;unfold nT nX;simp only;rw [U,c,Z,DN,gq];rw [show E++eN 12 0 :: [eL 16 0 0]++B++[eN 11 n]=E++eN 12 0 :: (eL 16 0 0 :: (B++[eN 11 n])) by simp,p1 s E _ 12 0 _ (n+E.length+2+B.length+1) (by rw [Z]) (by rw [Z];simp;omega)]
theorem DP:∀ (k:Nat) (a:du),oZ (fj k a) (e3 k a)
 | 0,a,s,_=>(sr s).symm
 | k + 1,a,s,C=>by
   have ay:=DP k;have b:=DO 6;unfold fj at C ⊢;unfold e3
   split at C
   . rename_i F
     rw [if_pos F,if_pos F];unfold oY vT;split
     . rw [j9,b,gq]
     . rw [ss 3 _ _ _ _ N9,b,gq]
   rename_i F
   rw [if_neg F,if_neg F]
   split at C
   . rename_i J
     rw [if_pos J,if_pos J,j9,ix,ss 3 _ _ _ _ N9,b (dq a.args 0),gq,b (dq a.args 1),gq,gq,j8];simp [ie]
   rename_i J
   rw [if_neg J,if_neg J]
   split at C
   . rename_i U
     rw [if_pos U,if_pos U,j9,jN,ss 2 _ _ _ _ N9,vS b,gq,gq]
     rfl
   rename_i U
   rw [if_neg U,if_neg U]
   split at C
   . rename_i aa
     rw [if_pos aa,if_pos aa];exact Nh _ (b _) (tK (ll k) _ (fun x _=>ay x)) (kO (ll k) _) (tK (ll k) _ (fun x _=>ay x)) (kO (ll k) _) s C
   rename_i aa
   rw [if_neg aa,if_neg aa]
   split at C
   . rename_i aB
     rw [if_pos aB,if_pos aB];exact Ni (b _) (tK (ll k) _ (fun x _=>ay x)) s C
   rename_i aB
   rw [if_neg aB,if_neg aB]
   split at C
   . rename_i bj
     rw [if_pos bj,if_pos bj,j9,b,gq]
   rename_i bj
   rw [if_neg bj,if_neg bj]
   split at C
   . rename_i ar
     rw [if_pos ar,if_pos ar,j9,b,gq]
   . rename_i ar
     rw [if_neg ar,if_neg ar];exact (sr s).symm
theorem DQ (p:e5):oZ (iK p) (lp p):=fun s Y=>by
 unfold iK at Y ⊢;have F:fN (eS (fj 6) p.body (eq 14 p.params p.locals s))=false:=nY (by rw [eQ,eQ];omega) Y;rw [tK (ll 6) p.body (fun x _=>DP 6 x) _ F,j9,j9,j9,gq,gq,gq,j8];unfold lp;simp
def hU:List e5->Nat->List ey
 | [],_=>[]
 | D :: r,n=>lp D n++hU r (n+(lp D n).length)
def jv (u:dN):List ey:=hU u.parts 0++lp ⟨0,0,u.main⟩ (hU u.parts 0).length
theorem yT (p:e5):ht (iK p):=fun s=>by
 have:=kO (ll 6) p.body (eq 14 p.params p.locals s);unfold iK;simp only [eQ] at this ⊢;omega
theorem yU:∀ (l:List e5) (s:dE),s.code.length<=(l.foldl (fun s D=>iK D s) s).code.length
 | [],s=>dA _
 | D :: r,s=>fZ (yT D s) (yU r (iK D s))
theorem yV:∀ (l:List e5) (s:dE),fN (l.foldl (fun s D=>iK D s) s)=false->l.foldl (fun s D=>iK D s) s=fk s (hU l s.code.length)
 | [],s,_=>(sr s).symm
 | D :: r,s,Y=>by
   have F:fN (iK D s)=false:=nY (yU r (iK D s)) Y;have J:=DQ D s F;show r.foldl _ (iK D s)=_;have m:fN (r.foldl (fun s D=>iK D s) (iK D s))=false:=Y;rw [J] at m ⊢;rw [yV r _ m,gq,j8]
   rfl
theorem DR {u:dN} (h:fN (e9 u)=false):e9 u=fk kR (jv u)/\(f7 u.parts).code.length=(hU u.parts 0).length:=by
 have F:fN (f7 u.parts)=false:=nY (yT _ _) h;have J:f7 u.parts=fk kR (hU u.parts 0):=yV u.parts kR F;unfold e9 at h ⊢;rw [DQ _ _ h,J,gq,j8]
 constructor
 . simp [jv,kR]
 . simp [kR]
theorem DT:∀ (a p:List e5) (n:Nat),hU (a++p) n=hU a n++hU p (n+(hU a n).length)
 | [],p,n=>by simp [hU]
 | D :: r,p,n=>by
   rw [xr,hU,hU,DT r p];simp [ie]
theorem Nj {u:dN} (h:fN (e9 u)=false) {i:Nat} (V:i<u.parts.length):(pZ u.parts)[i]? = some ((hU (u.parts.take i) 0).length:Int):=by
 have F:fN (f7 u.parts)=false:=nY (yT _ _) h
 have U:fN (f7 (u.parts.take i))=false:=by
  refine nY ?_ F;have:=yU (u.parts.drop i) (f7 (u.parts.take i));unfold f7 at *;rw [← lG,oC] at this;exact this
 have J:f7 (u.parts.take i)=fk kR (hU (u.parts.take i) 0):=yV _ kR U;unfold pZ;rw [oF,List.getElem?_range V,rO,J,j8];simp [kR]
end Go.Proofs.YtndkhgakfodldaaGreatDoor

namespace Go.Proofs.YtndkhgakfodldaaGreatDoor
open Go.RowKit
structure Sw where
 data:List Int
 inp:List Int
 out:List Int
 ticks:Nat
 calls:Nat
inductive Rr (α:Type) where
 | ok (a:α) (s:Sw)
 | stop (e:Int) (s:Sw)
def Rr.bind {α β:Type}:Rr α->(α->Sw->Rr β)->Rr β
 | .ok a s,f=>f a s
 | .stop e s,_=>.stop e s
structure Cx where
 us:List dN
 near:List (List Nat)
 beg:List Int
 lim:Nat
structure Fr where
 loc:List Int
 ret:Int
def iM (q:Nat) (s:Sw):Rr Unit:=if s.ticks=q then .stop 3 s else .ok () { s with ticks:=s.ticks+1 }
def ka (s:Sw):Rr Int:=match s.inp with
 | []=>.ok 0 s
 | x :: r=>.ok x { s with inp:=r }
def jO (n:Int) (s:Sw):Rr Unit:=if s.out.length=200 then .stop 5 s else .ok () { s with out:=s.out++[n] }
def fT (H:Cx) (u:Nat) (m:Int):Nat:=(H.near.getD u []).getD m.toNat 0
def e8 (H:Cx) (u:Nat) (m g:Int):Int:=H.beg.getD (fT H u m) 0+g
def gj (b:Bool):Int:=if b=true then 1 else 0
def kT (T a b:Int):Option Int:=
 if T=9 then some (wrap64 (a+b))
 else if T=10 then some (wrap64 (a - b))
 else if T=11 then some (wrap64 (a*b))
 else if T=14 then some (gj (a == b))
 else if T=15 then some (gj (decide (a<b)))
 else if b=0 then none
 else if T=12 then some (wrap64 (Int.tdiv a b))
 else if T=13 then some (Int.tmod a b)
 else none
def gW (f:dB->Sw->Rr Int):List dB->Sw->Rr (List Int)
 | [],s=>.ok [] s
 | x :: r,s=>(f x s).bind fun v s=>(gW f r s).bind fun al s=>.ok (v :: al) s
def hv (f:Sw->Rr Int) (p n:Int) (s:Sw):Rr Int:=(f s).bind fun i s=>if i<0\/n<=i then .stop 2 s else .ok (p+i) s
abbrev kb:=Nat->List du->List Int->Sw->Rr Int
def qY (H:Cx) (u:Nat) (m g:Int):e5:=match H.us[fT H u m]? with
 | some x=>x.parts.getD g.toNat ⟨0,0,[]⟩
 | none=>⟨0,0,[]⟩
def hh (al:List Int) (n:Int):List Int:=al++List.replicate (n.toNat - al.length) 0
def kt (E:kb) (H:Cx) (u:Nat) (f:dB->Sw->Rr Int) (m g:Int) (O:List dB) (s:Sw):Rr Int:=
 (gW f O s).bind fun al s=>E (fT H u m) (qY H u m g).body (hh al ((qY H u m g).params+(qY H u m g).locals)) s
def dI (E:kb) (H:Cx) (u:Nat) (P:List Int):Nat->dB->Sw->Rr Int
 | 0,_,s=>.ok 0 s
 | k+1,x,s=>
   if x.op=1 then .ok x.n s
   else if x.op=2 then ka s
   else if x.op=16 then .ok (P.getD x.at_.toNat 0) s
   else if x.op=3 then .ok (s.data.getD (e8 H u x.m x.at_).toNat 0) s
   else if x.op=4 then (hv (dI E H u P k (dq x.args 0)) (e8 H u x.m x.at_) x.n s).bind fun D s=>.ok (s.data.getD D.toNat 0) s
   else if x.op=5 then kt E H u (dI E H u P k) x.m x.at_ x.args s
   else if x.op=6 then (dI E H u P k (dq x.args 0) s).bind fun v s=>.ok (gj (decide (v=0))) s
   else if x.op=7 then (dI E H u P k (dq x.args 0) s).bind fun v s=>if v=0 then .ok 0 s else (dI E H u P k (dq x.args 1) s).bind fun v s=>.ok (gj (decide (v≠0))) s
   else if x.op=8 then (dI E H u P k (dq x.args 0) s).bind fun v s=>if v=0 then (dI E H u P k (dq x.args 1) s).bind fun v s=>.ok (gj (decide (v≠0))) s else .ok 1 s
   else (dI E H u P k (dq x.args 0) s).bind fun a s=>(dI E H u P k (dq x.args 1) s).bind fun p s=>match kT x.op a p with
    | some n=>.ok n s
    | none=>.stop 1 s
def g5 (f:du->Fr->Sw->Rr (Bool × Fr)):List du->Fr->Sw->Rr (Bool × Fr)
 | [],c,s=>.ok (false,c) s
 | a :: r,c,s=>(f a c s).bind fun d s=>if d.1=true then .ok (true,d.2) s else g5 f r d.2 s
abbrev p2:=Nat->dB->List du->Fr->Sw->Rr (Bool × Fr)
def eT (E:kb) (L:p2) (H:Cx) (u:Nat):Nat->du->Fr->Sw->Rr (Bool × Fr)
 | 0,_,c,s=>.ok (false,c) s
 | k+1,a,c,s=>
   if a.op=1 then (dI E H u c.loc 6 (dq a.args 0) s).bind fun v s=>if a.m = -1 then .ok (false,{ c with loc:=c.loc.set a.at_.toNat v }) s else .ok (false,c) { s with data:=s.data.set (e8 H u a.m a.at_).toNat v }
   else if a.op=2 then (hv (dI E H u c.loc 6 (dq a.args 0)) (e8 H u a.m a.at_) a.n s).bind fun D s=>(dI E H u c.loc 6 (dq a.args 1) s).bind fun v s=>.ok (false,c) { s with data:=s.data.set D.toNat v }
   else if a.op=3 then (kt E H u (dI E H u c.loc 6) a.m a.at_ a.args s).bind fun _ s=>.ok (false,c) s
   else if a.op=4 then (dI E H u c.loc 6 (dq a.args 0) s).bind fun v s=>if v=0 then g5 (eT E L H u k) a.other c s else g5 (eT E L H u k) a.body c s
   else if a.op=5 then L u (dq a.args 0) a.body c s
   else if a.op=6 then (dI E H u c.loc 6 (dq a.args 0) s).bind fun v s=>.ok (true,{ c with ret:=v }) s
   else if a.op=7 then (dI E H u c.loc 6 (dq a.args 0) s).bind fun v s=>(jO v s).bind fun _ s=>.ok (false,c) s
   else .ok (false,c) s
structure Lv where
 ent:kb
 whl:p2
def yW (r:Lv) (H:Cx) (u:Nat) (ac:List du) (P:List Int) (s:Sw):Rr Int:=
 (g5 (eT r.ent r.whl H u 6) ac ⟨P,0⟩ { s with calls:=s.calls+1 }).bind fun d s=>.ok d.2.ret { s with calls:=s.calls - 1 }
def lq (r:Lv) (H:Cx):kb:=fun u ac P s=>(iM H.lim s).bind fun _ s=>if s.calls=24 then .stop 4 s else yW r H u ac P s
def o0 (r:Lv) (H:Cx) (E:kb):p2:=fun u x ac c s=>
 (dI E H u c.loc 6 x s).bind fun v s=>if v=0 then .ok (false,c) s else
   (iM H.lim s).bind fun _ s=>(g5 (eT r.ent r.whl H u 6) ac c s).bind fun d s=>if d.1=true then .ok (true,d.2) s else r.whl u x ac d.2 s
def p3:Lv:=⟨fun _ _ _ s=>.stop 3 s,fun _ _ _ _ s=>.stop 3 s⟩
def lv (H:Cx):Nat->Lv
 | 0=>⟨lq p3 H,o0 p3 H (lq p3 H)⟩
 | t+1=>⟨lq (lv H t) H,o0 (lv H t) H (lq (lv H t) H)⟩
def jw (E:kb):List (Nat × dN)->Sw->Rr Unit
 | [],s=>.ok () s
 | x :: r,s=>(E x.1 x.2.main [] s).bind fun _ s=>jw E r s
def m4 (l:List dN) (i:Nat) (x:dN):List Nat:=i :: x.uses.map (fun s=>((hr (fe (l.take (i+1))) s).getD 0).toNat)
def fq (l:List dN):List (List Nat):=(List.range l.length).map fun i=>m4 l i (l.getD i sm)
def hi (l:List dN):List Int:=(List.range l.length).map fun i=>fG (l.take i)
def ku (l:List dN):Int:=fG l
def fJ (l:List dN) (q:Nat):Cx:=⟨l,fq l,hi l,q⟩
def jP (l:List dN) (g:List Int):Sw:=⟨List.replicate (ku l).toNat 0,g,[],0,0⟩
def ik (l:List dN) (g:List Int) (q:Nat):Rr Unit:=jw (lv (fJ l q) q).ent ((List.range l.length).zip l) (jP l g)
structure Rs where
 end_:Int
 out:List Int
 data:List Int
 ticks:Nat
def Rr.res {α:Type}:Rr α->Rs
 | .ok _ s=>⟨0,s.out,s.data,s.ticks⟩
 | .stop e s=>⟨e,s.out,s.data,s.ticks⟩
end Go.Proofs.YtndkhgakfodldaaGreatDoor

namespace Go.Proofs.YtndkhgakfodldaaGreatDoor
variable {c:Ck} {j n:Nat} {α:Type}
structure my (lim lim':Nat) where
 Sm:Nat->(α:Type)->(Sw->Rr α)->(Sw->Rr α)->Prop
 ok:∀ n α (a:α),Sm n α (fun s=>.ok a s) (fun s=>.ok a s)
 stop:∀ n α (e:Int),e≠3->Sm n α (fun s=>.stop e s) (fun s=>.stop e s)
 bind:∀ n α β (F F':Sw->Rr α) (f f':α->Sw->Rr β),Sm n α F F'->(∀ a,Sm n β (f a) (f' a))->Sm n β (fun s=>(F s).bind f) (fun s=>(F' s).bind f')
 tick:∀ n α (F F':Sw->Rr α),Sm n α F F'->Sm (n+1) α (fun s=>(iM lim s).bind fun _ s=>F s) (fun s=>(iM lim' s).bind fun _ s=>F' s)
 next:∀ n,Sm n Int ka ka
 tell:∀ n v,Sm n Unit (jO v) (jO v)
 get:∀ n α (g:List Int->α),Sm n α (fun s=>.ok (g s.data) s) (fun s=>.ok (g s.data) s)
 set:∀ n α (i:Nat) (v:Int) (a:α),Sm n α (fun s=>.ok a { s with data:=s.data.set i v }) (fun s=>.ok a { s with data:=s.data.set i v })
 dip:∀ n α β (F F':Sw->Rr α) (g:α->β),Sm n α F F'->Sm n β (fun s=>if s.calls=24 then .stop 4 s else (F { s with calls:=s.calls+1 }).bind fun a s=>.ok (g a) { s with calls:=s.calls - 1 }) (fun s=>if s.calls=24 then .stop 4 s else (F' { s with calls:=s.calls+1 }).bind fun a s=>.ok (g a) { s with calls:=s.calls - 1 })
structure vU (lim lim':Nat) where
 Sm:Nat->(α:Type)->(Sw->Rr α)->(Sw->Rr α)->Prop
 ok:∀ n α (a:α),Sm n α (fun s=>.ok a s) (fun s=>.ok a s)
 stop:∀ n α (e:Int),e≠3->Sm n α (fun s=>.stop e s) (fun s=>.stop e s)
 bind:∀ n α β (F F':Sw->Rr α) (f f':α->Sw->Rr β),Sm n α F F'->(∀ a,Sm n β (f a) (f' a))->Sm n β (fun s=>(F s).bind f) (fun s=>(F' s).bind f')
 tick:∀ n α (F F':Sw->Rr α),Sm n α F F'->Sm (n+1) α (fun s=>(iM lim s).bind fun _ s=>F s) (fun s=>(iM lim' s).bind fun _ s=>F' s)
 next:∀ n,Sm n Int ka ka
 tell:∀ n v,Sm n Unit (jO v) (jO v)
 get:∀ n α (g:List Int->α),Sm n α (fun s=>.ok (g s.data) s) (fun s=>.ok (g s.data) s)
 set:∀ n α (i:Nat) (v:Int) (a:α),Sm n α (fun s=>.ok a { s with data:=s.data.set i v }) (fun s=>.ok a { s with data:=s.data.set i v })
 deep:∀ n α (F F':Sw->Rr α),Sm n α F F'->Sm n α (fun s=>if s.calls=24 then .stop 4 s else F s) (fun s=>if s.calls=24 then .stop 4 s else F' s)
 down:∀ n α (F F':Sw->Rr α),Sm n α F F'->Sm n α (fun s=>F { s with calls:=s.calls+1 }) (fun s=>F' { s with calls:=s.calls+1 })
 up:∀ n α (a:α),Sm n α (fun s=>.ok a { s with calls:=s.calls - 1 }) (fun s=>.ok a { s with calls:=s.calls - 1 })
def vU.smi {q:Nat} (A:vU q j):my q j where
 Sm:=A.Sm
 ok:=A.ok
 stop:=A.stop
 bind:=A.bind
 tick:=A.tick
 next:=A.next
 tell:=A.tell
 get:=A.get
 set:=A.set
 dip:=fun n _ _ l b g h=>A.deep n _ _ _ (A.down n _ (fun s=>(l s).bind fun a s=>.ok (g a) { s with calls:=s.calls - 1 }) (fun s=>(b s).bind fun a s=>.ok (g a) { s with calls:=s.calls - 1 }) (A.bind n _ _ l b _ _ h (fun a=>A.up n _ (g a))))
section
variable {q j:Nat} (A:my q j) {n:Nat}
theorem my.pick {l b d a:Sw->Rr α} (p:Prop) [Decidable p] (b7:A.Sm n α l b) (g:A.Sm n α d a):A.Sm n α (fun s=>if p then l s else d s) (fun s=>if p then b s else a s):=by
 by_cases h:p
 . simp only [if_pos h];exact b7
 . simp only [if_neg h];exact g
theorem DU {f o:dB->Sw->Rr Int} (h:∀ x,A.Sm n Int (f x) (o x)):∀ l,A.Sm n (List Int) (gW f l) (gW o l)
 | []=>A.ok n _ []
 | x :: r=>A.bind n _ _ _ _ _ _ (h x) (fun v=>A.bind n _ _ _ _ _ _ (DU h r) (fun al=>A.ok n _ (v :: al)))
theorem vV {f o:Sw->Rr Int} (h:A.Sm n Int f o) (p m:Int):A.Sm n Int (hv f p m) (hv o p m):=
 A.bind n _ _ _ _ _ _ h (fun i=>A.pick (i<0\/m<=i) (A.stop n _ 2 N9) (A.ok n _ (p+i)))
variable {E y:kb} (aG:∀ u p l,A.Sm n Int (E u p l) (y u p l)) (H:Cx) (j:Nat)
include aG
theorem vW (u:Nat) {f o:dB->Sw->Rr Int} (h:∀ x,A.Sm n Int (f x) (o x)) (m g:Int) (l:List dB):A.Sm n Int (kt E H u f m g l) (kt y { H with lim:=j } u o m g l):=
 A.bind n _ _ _ _ _ _ (DU A h l) (fun al=>aG _ _ _)
theorem vX (u:Nat) (P:List Int):∀ k x,A.Sm n Int (dI E H u P k x) (dI y { H with lim:=j } u P k x)
 | 0,x=>A.ok n _ 0
 | k + 1,x=>by
   have ay:=vX u P k;refine A.pick (x.op=1) (A.ok n _ x.n) (A.pick (x.op=2) (A.next n) (A.pick (x.op=16) (A.ok n _ _) (A.pick (x.op=3) (A.get n _ fun d=>d.getD (e8 H u x.m x.at_).toNat 0) (A.pick (x.op=4) ?_ (A.pick (x.op=5) (vW A aG H j u ay x.m x.at_ x.args) (A.pick (x.op=6) ?_ (A.pick (x.op=7) ?_ (A.pick (x.op=8) ?_ ?_))))))))
   . exact A.bind n _ _ _ _ _ _ (vV A (ay (dq x.args 0)) _ _) (fun D=>A.get n _ fun d=>d.getD D.toNat 0)
   . exact A.bind n _ _ _ _ _ _ (ay (dq x.args 0)) (fun v=>A.ok n _ _)
   . exact A.bind n _ _ _ _ _ _ (ay (dq x.args 0)) (fun v=>A.pick (v=0) (A.ok n _ 0) (A.bind n _ _ _ _ _ _ (ay (dq x.args 1)) (fun v=>A.ok n _ _)))
   . exact A.bind n _ _ _ _ _ _ (ay (dq x.args 0)) (fun v=>A.pick (v=0) (A.bind n _ _ _ _ _ _ (ay (dq x.args 1)) (fun v=>A.ok n _ _)) (A.ok n _ 1))
   . refine A.bind n _ _ _ _ _ _ (ay (dq x.args 0)) (fun a=>A.bind n _ _ _ _ _ _ (ay (dq x.args 1)) (fun p=>?_))
     cases kT x.op a p with
     | none=>exact A.stop n _ 1 N9
     | some v=>exact A.ok n _ v
omit aG in
theorem qZ {f o:du->Fr->Sw->Rr (Bool × Fr)} (h:∀ a c,A.Sm n _ (f a c) (o a c)):∀ l c,A.Sm n _ (g5 f l c) (g5 o l c)
 | [],c=>A.ok n _ (false,c)
 | a :: r,c=>A.bind n _ _ _ _ _ _ (h a c) (fun d=>A.pick (d.1=true) (A.ok n _ (true,d.2)) (qZ h r d.2))
theorem tL {L b:p2} (aQ:∀ u x p c,A.Sm n _ (L u x p c) (b u x p c)) (u:Nat):∀ k a c,A.Sm n _ (eT E L H u k a c) (eT y b { H with lim:=j } u k a c)
 | 0,a,c=>A.ok n _ (false,c)
 | k+1,a,c=>by
   have ay:=tL aQ u k;have af:=vX A aG H j u c.loc 6;refine A.pick (a.op=1) ?_ (A.pick (a.op=2) ?_ (A.pick (a.op=3) ?_ (A.pick (a.op=4) ?_ (A.pick (a.op=5) (aQ u _ _ c) (A.pick (a.op=6) ?_ (A.pick (a.op=7) ?_ (A.ok n _ (false,c))))))))
   . exact A.bind n _ _ _ _ _ _ (af (dq a.args 0)) (fun v=>A.pick (a.m = -1) (A.ok n _ _) (A.set n _ (e8 H u a.m a.at_).toNat v (false,c)))
   . exact A.bind n _ _ _ _ _ _ (vV A (af (dq a.args 0)) _ _) (fun D=>A.bind n _ _ _ _ _ _ (af (dq a.args 1)) (fun v=>A.set n _ D.toNat v (false,c)))
   . exact A.bind n _ _ _ _ _ _ (vW A aG H j u af a.m a.at_ a.args) (fun _=>A.ok n _ (false,c))
   . exact A.bind n _ _ _ _ _ _ (af (dq a.args 0)) (fun v=>A.pick (v=0) (qZ A ay a.other c) (qZ A ay a.body c))
   . exact A.bind n _ _ _ _ _ _ (af (dq a.args 0)) (fun v=>A.ok n _ _)
   . exact A.bind n _ _ _ _ _ _ (af (dq a.args 0)) (fun v=>A.bind n _ _ _ _ _ _ (A.tell n v) (fun _=>A.ok n _ (false,c)))
end
structure o6 {lim lim':Nat} (I:my lim lim') (n:Nat) (r r':Lv):Prop where
 ent:∀ u b l,I.Sm n Int (r.ent u b l) (r'.ent u b l)
 whl:∀ u x b c,I.Sm n _ (r.whl u x b c) (r'.whl u x b c)
theorem DV {q:Nat} (A:my q j) {r e:Lv} (h:o6 A n r e) (H:Cx) (W:H.lim=q) (u:Nat) (b:List du) (l:List Int):A.Sm (n+1) Int (lq r H u b l) (lq e { H with lim:=j } u b l):=by
 subst W;exact A.tick n _ _ _ (A.dip n _ _ (g5 (eT r.ent r.whl H u 6) b ⟨l,0⟩) (g5 (eT e.ent e.whl { H with lim:=j } u 6) b ⟨l,0⟩) (fun d=>d.2.ret) (qZ A (tL A h.ent H j h.whl u 6) b ⟨l,0⟩))
theorem Nk {q:Nat} (A:my q j) {r e:Lv} (h:o6 A n r e) (H:Cx) (W:H.lim=q) {E y:kb} (aG:∀ u b l,A.Sm (n+1) Int (E u b l) (y u b l)) (u:Nat) (x:dB) (b:List du) (c:Fr):A.Sm (n+1) _ (o0 r H E u x b c) (o0 e { H with lim:=j } y u x b c):=by
 subst W;refine A.bind (n+1) _ _ _ _ _ _ (vX A aG H j u c.loc 6 x) (fun v=>A.pick (v=0) (A.ok _ _ (false,c)) (A.tick n _ _ _ ?_));exact A.bind n _ _ _ _ _ _ (qZ A (tL A h.ent H j h.whl u 6) b c) (fun d=>A.pick (d.1=true) (A.ok n _ (true,d.2)) (h.whl u x b d.2))
theorem yX {q:Nat} (A:my q j) {r e:Lv} (h:o6 A n r e) (H:Cx) (W:H.lim=q):o6 A (n+1) ⟨lq r H,o0 r H (lq r H)⟩ ⟨lq e { H with lim:=j },o0 e { H with lim:=j } (lq e { H with lim:=j })⟩:=
 ⟨DV A h H W,Nk A h H W (DV A h H W)⟩
def jx (H:Cx):Nat->Lv
 | 0=>p3
 | k+1=>lv H k
theorem sv (H:Cx):∀ t,jx H (t+1)=⟨lq (jx H t) H,o0 (jx H t) H (lq (jx H t) H)⟩
 | 0=>rfl
 | _+1=>rfl
theorem DW {q:Nat} (A:my q j) (H:Cx) (W:H.lim=q) (d:Nat) (ab:o6 A 0 p3 (jx { H with lim:=j } d)):∀ t,o6 A t (jx H t) (jx { H with lim:=j } (t+d))
 | 0=>by
   rw [fY];exact ab
 | t+1=>by
   have ay:=DW A H W d ab t;rw [show t+1+d=(t+d)+1 from N7,sv,sv];exact yX A ay H W
theorem DX {q:Nat} (A:my q j) {E y:kb} (aG:∀ u p l,A.Sm n Int (E u p l) (y u p l)):∀ l,A.Sm n Unit (jw E l) (jw y l)
 | []=>A.ok n _ ()
 | x :: r=>A.bind n _ _ _ _ _ _ (aG x.1 x.2.main []) (fun _=>DX A aG r)
def Rr.st:Rr α->Sw
 | .ok _ s=>s
 | .stop _ s=>s
theorem sw {q:Nat} {s:Sw} (h:s.ticks=q):iM q s = .stop 3 s:=if_pos h
theorem q0 {q:Nat} {s:Sw} (h:s.ticks≠q):iM q s = .ok () { s with ticks:=s.ticks+1 }:=if_neg h
def he (s t:Sw):Prop:=s.out <+: t.out/\t.data.length=s.data.length/\(s.out.length<=200->t.out.length<=200)/\s.ticks<=t.ticks
theorem he.refl (s:Sw):he s s:=⟨pw _,rfl,id,dA _⟩
theorem he.trans {a b c:Sw} (h:he a b) (k:he b c):he a c:=⟨h.1.trans k.1,k.2.1.trans h.2.1,fun x=>k.2.2.1 (h.2.2.1 x),fZ h.2.2.2 k.2.2.2⟩
def hV (l:Sw->Rr α):Prop:=∀ s,he s (l s).st
theorem yY {β:Type} {l:Sw->Rr α} {f:α->Sw->Rr β} (F:hV l) (J:∀ a,hV (f a)):hV (fun s=>(l s).bind f):=fun s=>by
 have:=F s;show he s ((l s).bind f).st
 cases Q:l s with
 | ok a t=>rw [Q] at this;exact he.trans (b:=t) this (J a t)
 | stop e t=>rw [Q] at this;exact this
theorem yZ {l:Sw->Rr α} (q:Nat) (h:hV l):hV (fun s=>(iM q s).bind fun _ s=>l s):=fun s=>by
 by_cases X:s.ticks=q
 . simp only [sw X,Rr.bind];exact he.refl s
 . simp only [q0 X,Rr.bind];exact (show he s { s with ticks:=s.ticks+1 } from ⟨pw _,rfl,id,rT _⟩).trans (h _)
theorem y0:hV ka:=fun s=>by
 unfold ka
 split<;>exact he.refl s
theorem y7 (v:Int):hV (jO v):=fun s=>by
 unfold jO;split
 . exact he.refl s
 . rename_i h
   refine ⟨List.prefix_append _ _,rfl,fun k=>?_,dA _⟩;show (s.out++[v]).length<=200;rw [eM,oA];omega
theorem DY (i:Nat) (v:Int) (a:α):hV (fun s=>.ok a { s with data:=s.data.set i v }):=fun s=>⟨pw _,oG ..,id,dA _⟩
theorem DZ {l:Sw->Rr α} (h:hV l):hV (fun s=>if s.calls=24 then .stop 4 s else l s):=fun s=>by
 by_cases W:s.calls=24
 . simp only [if_pos W];exact he.refl s
 . simp only [if_neg W];exact h s
theorem D0 {l:Sw->Rr α} (h:hV l):hV (fun s=>l { s with calls:=s.calls+1 }):=fun s=>(show he s { s with calls:=s.calls+1 } from he.refl s).trans (h _)
def Nl (q j:Nat):vU q j where
 Sm:=fun _ _ _ b=>hV b
 ok:=fun _ _ _ s=>he.refl s
 stop:=fun _ _ _ _ s=>he.refl s
 bind:=fun _ _ _ _ _ _ _ F J=>yY F J
 tick:=fun _ _ _ _ h=>yZ j h
 next:=fun _=>y0
 tell:=fun _ v=>y7 v
 get:=fun _ _ _ s=>he.refl s
 set:=fun _ _ i v a=>DY i v a
 deep:=fun _ _ _ _ h=>DZ h
 down:=fun _ _ _ _ h=>D0 h
 up:=fun _ _ _ s=>he.refl s
def o7 (q j:Nat):my q j:=(Nl q j).smi
theorem p4 (H:Cx):∀ t,o6 (o7 H.lim H.lim) 0 (jx H t) (jx H t)
 | 0=>⟨fun _ _ _ s=>he.refl s,fun _ _ _ _ s=>he.refl s⟩
 | t+1=>by
   have ay:=p4 H t;have:=yX (o7 H.lim H.lim) ay H rfl;rw [sv];exact ⟨this.ent,this.whl⟩
def Cq (l:Sw->Rr α):Prop:=∀ s a t,l s = .ok a t->t.calls=s.calls
def vY (q j:Nat):my q j where
 Sm:=fun _ _ _ b=>Cq b
 ok:=fun _ _ _ s a t h=>by cases h;rfl
 stop:=fun _ _ _ _ s a t h=>P3
 bind:=fun _ _ _ _ b _ o F J s a t h=>by
  have h:(b s).bind o = .ok a t:=h
  cases Q:b s with
  | ok p u=>rw [Q] at h;exact (J p u a t h).trans (F s p u Q)
  | stop e u=>rw [Q] at h;cases h
 tick:=fun _ _ _ b F s a t h=>by
  have h:(iM j s).bind (fun _ s=>b s) = .ok a t:=h
  by_cases X:s.ticks=j
  . rw [sw X] at h;cases h
  . rw [q0 X] at h;exact F { s with ticks:=s.ticks+1 } a t h
 next:=fun _ s a t h=>by
  unfold ka at h
  split at h<;>(cases h;rfl)
 tell:=fun _ v s a t h=>by
  unfold jO at h
  split at h
  . cases h
  . cases h;rfl
 get:=fun _ _ _ s a t h=>by cases h;rfl
 set:=fun _ _ _ _ _ s a t h=>by cases h;rfl
 dip:=fun _ _ _ _ b g F s a t h=>by
  have h:(if s.calls=24 then Rr.stop 4 s else (b { s with calls:=s.calls+1 }).bind fun a s=>.ok (g a) { s with calls:=s.calls - 1 }) = .ok a t:=h
  split at h
  . cases h
  . cases Q:b { s with calls:=s.calls+1 } with
    | stop e u=>rw [Q] at h;cases h
    | ok p u=>
      rw [Q] at h;have:=F _ p u Q;cases h;show u.calls - 1=s.calls;rw [this];show s.calls+1 - 1=s.calls;omega
theorem y8 (H:Cx):∀ t,o6 (vY H.lim H.lim) 0 (jx H t) (jx H t)
 | 0=>⟨fun _ _ _ s a t h=>P3,fun _ _ _ _ s a t h=>P3⟩
 | t+1=>by
   have ay:=y8 H t;have:=yX (vY H.lim H.lim) ay H rfl;rw [sv];exact ⟨this.ent,this.whl⟩
def p5 (q n:Nat) (s:Sw):Prop:=s.ticks<=q/\q+1<=s.ticks+n
def D1 (q n:Nat) (l b:Sw->Rr α):Prop:=∀ s,p5 q n s->
 (∃ a t,l s = .ok a t/\b s = .ok a t/\p5 q n t)\/(∃ e t,e≠3/\l s = .stop e t/\b s = .stop e t/\t.ticks<=q)\/(∃ t,l s = .stop 3 t/\t.ticks=q/\t.out <+: (b s).st.out)
theorem q1 {q:Nat} {l:Sw->Rr α} (h:∀ s,(∃ a t,l s = .ok a t/\t.ticks=s.ticks)\/(∃ e t,e≠3/\l s = .stop e t/\t.ticks=s.ticks)):D1 q n l l:=fun s V=>by
 rcases h s with ⟨a,t,aJ,aI⟩ | ⟨e,t,U,aJ,aI⟩
 . exact Or.inl ⟨a,t,aJ,aJ,by unfold p5 at V ⊢;rw [aI];exact V⟩
 . exact Or.inr (Or.inl ⟨e,t,U,aJ,aJ,by rw [aI];exact V.1⟩)
def Nm (q j:Nat) (X:q<j):vU q j where
 Sm:=fun n _ l b=>hV b/\D1 q n l b
 ok:=fun _ _ a=>⟨fun s=>he.refl s,q1 fun s=>Or.inl ⟨a,s,rfl,rfl⟩⟩
 stop:=fun _ _ e ar=>⟨fun s=>he.refl s,q1 fun s=>Or.inr ⟨e,s,ar,rfl,rfl⟩⟩
 bind:=fun n _ _ l b f o F J=>⟨yY F.1 fun a=>(J a).1,fun s V=>by
  rcases F.2 s V with ⟨a,t,aJ,aI,a2⟩ | ⟨e,t,U,aJ,aI,ax⟩ | ⟨t,aJ,ax,aA⟩
  . simp only [aJ,aI,Rr.bind]
    exact (J a).2 t a2
  . simp only [aJ,aI,Rr.bind]
    exact Or.inr (Or.inl ⟨e,t,U,rfl,rfl,ax⟩)
  . refine Or.inr (Or.inr ⟨t,by simp only [aJ,Rr.bind],ax,aA.trans ?_⟩)
    show (b s).st.out <+: ((b s).bind o).st.out
    cases Q:b s with
    | ok a u=>exact ((J a).1 u).1
    | stop e u=>exact pw _⟩
 tick:=fun n _ l b h=>⟨yZ j h.1,fun s V=>by
  by_cases a8:s.ticks=q
  . refine Or.inr (Or.inr ⟨s,by simp only [sw a8,Rr.bind],a8,?_⟩)
    exact (yZ j h.1 s).1
  . have C:s.ticks≠j:=by unfold p5 at V;omega
    simp only [q0 a8,q0 C,Rr.bind]
    rcases h.2 { s with ticks:=s.ticks+1 } (by unfold p5 at V ⊢;show s.ticks+1<=q/\q+1<=s.ticks+1+n;omega) with ⟨a,t,aJ,aI,a2⟩ | h' | h'
    . exact Or.inl ⟨a,t,aJ,aI,by unfold p5 at a2 ⊢;omega⟩
    . exact Or.inr (Or.inl h')
    . exact Or.inr (Or.inr h')⟩
 next:=fun _=>⟨y0,q1 fun s=>by unfold ka;cases V:s.inp with
  | nil=>exact Or.inl ⟨0,s,rfl,rfl⟩
  | cons x r=>exact Or.inl ⟨x,{ s with inp:=r },rfl,rfl⟩⟩
 tell:=fun _ v=>⟨y7 v,q1 fun s=>by
  unfold jO
  by_cases h:s.out.length=200
  . rw [if_pos h];exact Or.inr ⟨5,s,N9,rfl,rfl⟩
  . rw [if_neg h];exact Or.inl ⟨(),{ s with out:=s.out++[v] },rfl,rfl⟩⟩
 get:=fun _ _ g=>⟨fun s=>he.refl s,q1 fun s=>Or.inl ⟨_,s,rfl,rfl⟩⟩
 set:=fun _ _ i v a=>⟨DY i v a,q1 fun s=>Or.inl ⟨a,_,rfl,rfl⟩⟩
 deep:=fun n _ l b h=>⟨DZ h.1,fun s V=>by
  by_cases W:s.calls=24
  . simp only [if_pos W];exact Or.inr (Or.inl ⟨4,s,N9,rfl,rfl,V.1⟩)
  . simp only [if_neg W];exact h.2 s V⟩
 down:=fun n _ l b h=>⟨D0 h.1,fun s V=>h.2 { s with calls:=s.calls+1 } V⟩
 up:=fun _ _ a=>⟨fun s=>he.refl s,q1 fun s=>Or.inl ⟨a,_,rfl,rfl⟩⟩
def y9 (q j:Nat) (X:q<j):my q j:=(Nm q j X).smi
theorem Nn {q:Nat} (X:q<j) (H:Cx) (W:H.lim=j) (d:Nat):o6 (y9 q j X) 0 p3 (jx H d):=by
 have h:=p4 H d
 have Z:∀ s,¬ p5 q 0 s:=fun s V=>by unfold p5 at V;omega
 exact ⟨fun u p l=>⟨h.ent u p l,fun s V=>absurd V (Z s)⟩,fun u x p c=>⟨h.whl u x p c,fun s V=>absurd V (Z s)⟩⟩
theorem D2 (l:List dN) (g:List Int) (q:Nat):ik l g q=jw (jx (fJ l q) (q+1)).ent ((List.range l.length).zip l) (jP l g):=rfl
theorem Np (l:List dN) (g:List Int) {q:Nat} (X:q<j):(ik l g q).res.ticks<=q/\(ik l g q).res.out <+: (ik l g j).res.out/\((ik l g q).res.end_=3\/(ik l g j).res=(ik l g q).res):=by
 have F:=DW (y9 q j X) (fJ l q) rfl (j - q) (Nn X _ rfl _) (q+1);rw [show q+1+(j - q)=j+1 from N7] at F;have J:=(DX (y9 q j X) F.ent ((List.range l.length).zip l)).2 (jP l g) ⟨dY _,by show q+1<=0+(q+1);omega⟩;rw [D2,D2]
 rcases J with ⟨a,t,aJ,aI,a2⟩ | ⟨e,t,U,aJ,aI,ax⟩ | ⟨t,aJ,ax,aA⟩
 . rw [aJ,show jw (jx (fJ l j) (j+1)).ent ((List.range l.length).zip l) (jP l g)=_ from aI]
   exact ⟨a2.1,pw _,Or.inr rfl⟩
 . rw [aJ,show jw (jx (fJ l j) (j+1)).ent ((List.range l.length).zip l) (jP l g)=_ from aI]
   exact ⟨ax,pw _,Or.inr rfl⟩
 . rw [aJ]
   refine ⟨Nat.le_of_eq ax,?_,Or.inl rfl⟩;show t.out <+: _;refine aA.trans ?_;show (jw (jx (fJ l j) (j+1)).ent ((List.range l.length).zip l) (jP l g)).st.out <+: _
   cases jw (jx (fJ l j) (j+1)).ent ((List.range l.length).zip l) (jP l g)<;>exact pw _
def lU (i:eK) (n:Nat):Prop:=(1<=i.op/\i.op<=22)/\(0<=i.a/\i.a<=1099511627776+n)/\(0<=i.b/\i.b<=64)
theorem lU.mono {i:eK} {b:Nat} (h:lU i n) (Z:n<=b):lU i b:=by unfold lU at *;omega
theorem za (T a b:Int) (h:(1<=T/\T<=22)/\(0<=a/\a<=1099511627776)/\(0<=b/\b<=64)):lU ⟨T,a,b⟩ 0:=by unfold lU;simp only;omega
def tM (us:Int) (q:Nat->Prop) (lo V k:Nat) (f:gd) (a:Int):Prop:=
 (f.kind=1/\f.m=0/\(q k\/((lo:Int)<=a/\a<=V)))\/((f.kind=2\/f.kind=3)/\¬ q k/\(0<=a/\a<=2048)/\(0<=f.m/\f.m<=us))
theorem tM.mono {us:Int} {q J':Nat->Prop} {lo V d k:Nat} {f:gd} {a:Int} (h:tM us q lo V k f a) (b:J' k↔q k) (al:V<=d):tM us J' lo d k f a:=by
 rcases h with ⟨F,J,U⟩ | ⟨F,J,U⟩
 . refine Or.inl ⟨F,J,?_⟩
   rcases U with U | U
   . exact Or.inl (b.2 U)
   . exact Or.inr N7
 . exact Or.inr ⟨F,fun h=>J (b.1 h),U⟩
structure fy (us:Int) (J:Nat->Prop) (s t:dE):Prop where
 le:s.code.length<=t.code.length
 pre:∀ k,k<s.code.length->t.code[k]? = s.code[k]?
 ins:∀ (k:Nat) (i:eK),s.code.length<=k->t.code[k]? = some i->lU i t.code.length
 jb:∀ k,J k->s.code.length<=k/\k<t.code.length
 fx:∃ e,t.fixes=s.fixes++e/\e.Pairwise (fun f g=>f.at_<g.at_)/\∀ f ∈ e,∃ (k:Nat) (i:eK),t.code[k]? = some i/\f.at_=(k:Int)/\s.code.length<=k/\tM us J s.code.length t.code.length k f i.a
theorem lr {l:List α} {k:Nat} {x:α} (h:l[k]? = some x):k<l.length:=by
 rcases gZ k l.length with F | F
 . exact F
 . rw [mL F] at h;cases h
section
variable {us:Int} {q J':Nat->Prop} {s t u:dE}
theorem fy.cong (h:fy us q s t) (b:∀ k,J' k↔q k):fy us J' s t:=by
 obtain rfl:J'=q:=funext fun k=>propext (b k)
 exact h
theorem fy.refl (s:dE):fy us (fun _=>False) s s:=
 ⟨dA _,fun _ _=>rfl,fun k i F J=>by have:=lr J;omega,fun _ h=>h.elim,[],Ob,List.Pairwise.nil,fun f Y=>by cases Y⟩
theorem fy.snoc (h:fy us q s t) (i:eK) (V:lU i 0\/lU i (t.code.length+1)) (b:∀ k,k<t.code.length->(J' k↔q k)) (n:∀ k,J' k->s.code.length<=k/\k<=t.code.length) (e':List gd)
 (c:e'=[]\/∃ f,e'=[f]/\f.at_=(t.code.length:Int)/\tM us J' s.code.length (t.code.length+1) t.code.length f i.a):fy us J' s ⟨t.code++[i],t.fixes++e'⟩:=by
 obtain ⟨e,ar,aA,Y⟩:=h.fx;have X:=h.le
 have b1:(t.code++[i]).length=t.code.length+1:=Ob
 have j:∀ k,k<t.code.length->(t.code++[i])[k]? = t.code[k]?:=fun k N=>kh N
 have l:(t.code++[i])[t.code.length]? = some i:=Ob
 have d:lU i (t.code.length+1):=by rcases V with F | F;exact F.mono (dY _);exact F
 refine ⟨by simp only [b1];omega,fun k N=>(j k N7).trans (h.pre k N),fun k x N S=>?_,fun k N=>by have:=n k N;simp only [b1];omega,e++e',by simp only [ar,oE],?_,fun f a=>?_⟩
 . simp only [b1]
   have D:=lr S;rw [b1] at D
   rcases gZ k t.code.length with F | F
   . exact (h.ins k x N ((j k F).symm.trans S)).mono N7
   . obtain rfl:k=t.code.length:=by omega
     obtain rfl:i=x:=by rw [l] at S;exact eX S
     exact d
 . refine List.pairwise_append.2 ⟨aA,?_,fun f a g ak=>?_⟩
   . rcases c with rfl | ⟨f,rfl,_⟩
     . exact List.Pairwise.nil
     . exact List.pairwise_singleton ..
   . obtain ⟨k,x,S,N,_⟩:=Y f a
     have:=lr S
     rcases c with rfl | ⟨o,rfl,a7,_⟩
     . cases ak
     . rw [l8] at ak;subst ak;omega
 . rcases jF.1 a with F | F
   . obtain ⟨k,x,S,N,a8,Q⟩:=Y f F
     have m:=lr S;exact ⟨k,x,(j k m).trans S,N,a8,Q.mono (b k m) (by simp only [b1];omega)⟩
   . rcases c with rfl | ⟨o,rfl,a7,Q⟩
     . cases F
     . rw [l8] at F;subst F
       exact ⟨t.code.length,i,l,a7,X,by simp only [b1];exact Q⟩
theorem fy.put (h:fy us q s t) (T a b:Int) (V:(1<=T/\T<=22)/\(0<=a/\a<=1099511627776)/\(0<=b/\b<=64)):fy us q s (eq T a b t):=by
 have:=h.snoc (J':=q) ⟨T,a,b⟩ (Or.inl (za _ _ _ V)) (fun _ _=>Iff.rfl) (fun k N=>Qb) [] (Or.inl rfl);rw [qD] at this;exact this
theorem fy.fix (h:fy us q s t) (p m T a b:Int) (N:p=2\/p=3) (V:(1<=T/\T<=22)/\(0<=a/\a<=2048)/\(0<=b/\b<=64)) (a1:0<=m/\m<=us):fy us q s (jL p m ⟨T,a,b⟩ t):=
 h.snoc (J':=q) ⟨T,a,b⟩ (Or.inl (za _ _ _ N7)) (fun _ _=>Iff.rfl) (fun k N=>Qb) [⟨t.code.length,p,m⟩]
  (Or.inr ⟨_,rfl,rfl,Or.inr ⟨N,fun a2=>by have:=(h.jb _ a2).2;omega,V.2.1,a1⟩⟩)
theorem fy.jump (h:fy us q s t) (T:Int) (ap:1<=T/\T<=22):fy us (fun x=>q x\/x=t.code.length) s (eG T 0 t):=
 h.snoc ⟨T,0,0⟩ (Or.inl (za _ _ _ N7)) (fun k N=>⟨fun h=>h.elim id (fun e=>N7),Or.inl⟩) (fun k N=>by rcases N with N | rfl;have:=h.jb k N;omega;exact ⟨h.le,dA _⟩) [⟨t.code.length,1,0⟩]
  (Or.inr ⟨_,rfl,rfl,Or.inl ⟨rfl,rfl,Or.inl (Or.inr rfl)⟩⟩)
theorem fy.back (h:fy us q s t) (T:Int) (ap:1<=T/\T<=22):fy us q s (eG T s.code.length t):=
 have X:=h.le
 h.snoc (J':=q) ⟨T,s.code.length,0⟩ (Or.inr (by unfold lU;simp only;omega)) (fun _ _=>Iff.rfl) (fun k N=>Qb) [⟨t.code.length,1,0⟩]
  (Or.inr ⟨_,rfl,rfl,Or.inl ⟨rfl,rfl,Or.inr (by simp only;omega)⟩⟩)
theorem zc (t:dE) {j k:Nat} (h:j≠k):(ge k t).code[j]? = t.code[j]?:=by
 simp only [ge,xk];rw [show (fun a=>if k=j then jM (t.code.length:Int) a else a)=id from funext fun a=>if_neg (fun e=>h e.symm)];simp
theorem D3 (t:dE) {k:Nat} {i:eK} (h:t.code[k]? = some i):(ge k t).code[k]? = some (jM t.code.length i):=by
 simp only [ge,xk,h];simp
theorem fy.land (h:fy us q s t) {k:Nat} (N:q k):fy us (fun x=>q x/\x≠k) s (ge k t):=by
 obtain ⟨e,ar,aA,Y⟩:=h.fx;have X:=h.le;have u:=h.jb k N;refine ⟨by rw [fC];exact X,fun j a2=>(zc t N7).trans (h.pre j a2),fun j i a2 V=>?_,fun j a2=>by rw [fC];exact h.jb j a2.1,e,ar,aA,fun f a=>?_⟩
 . rw [fC]
   by_cases e:j=k
   . subst e
     have ak:t.code[j]? = some t.code[j]:=ew u.2;rw [D3 t ak] at V;obtain rfl:=eX V;have:=h.ins j _ a2 ak;unfold lU at this ⊢;simp only [jM];omega
   . rw [zc t e] at V;exact h.ins j i a2 V
 . obtain ⟨j,i,V,a7,a8,Q⟩:=Y f a
   rw [fC]
   by_cases e:j=k
   . subst e
     refine ⟨j,_,D3 t V,a7,a8,?_⟩
     rcases Q with ⟨F,J,_⟩ | ⟨_,J,_⟩
     . exact Or.inl ⟨F,J,Or.inr (by simp only [jM];omega)⟩
     . exact absurd N J
   . exact ⟨j,i,(zc t e).trans V,a7,a8,Q.mono ⟨fun h=>h.1,fun h=>⟨h,e⟩⟩ (dA _)⟩
theorem fy.then (h:fy us q s t) (g:fy us (fun _=>False) t u):fy us q s u:=by
 obtain ⟨e,ar,aA,Y⟩:=h.fx;obtain ⟨a0,c,b,m⟩:=g.fx;have X:=h.le;have j:=g.le;refine ⟨N7,fun k N=>(g.pre k N7).trans (h.pre k N),fun k i N V=>?_,fun k N=>Qb,e++a0,by rw [c,ar,oE],?_,fun f a=>?_⟩
 . rcases gZ k t.code.length with F | F
   . exact (h.ins k i N ((g.pre k F).symm.trans V)).mono j
   . exact g.ins k i F V
 . refine List.pairwise_append.2 ⟨aA,b,fun f a x S=>?_⟩
   obtain ⟨k,i,V,a7,_⟩:=Y f a;obtain ⟨bn,i',d,o,C,_⟩:=m x S;have:=lr V;omega
 . rcases jF.1 a with F | F
   . obtain ⟨k,i,V,a7,a8,Q⟩:=Y f F
     exact ⟨k,i,(g.pre k (lr V)).trans V,a7,a8,Q.mono Iff.rfl j⟩
   . obtain ⟨k,i,V,a7,a8,Q⟩:=m f F
     refine ⟨k,i,V,a7,N7,?_⟩
     rcases Q with ⟨F,J,U⟩ | ⟨F,J,U⟩
     . exact Or.inl ⟨F,J,Or.inr (by rcases U with U | U;exact U.elim;omega)⟩
     . exact Or.inr ⟨F,fun a2=>by have:=(h.jb k a2).2;omega,U⟩
end
def hw (us:Int) (f:dE->dE):Prop:=∀ s,fy us (fun _=>False) s (f s)
theorem vZ {us:Int} {f:dB->dE->dE}:∀ {l:List dB},(∀ y ∈ l,hw us (f y))->hw us (gh f l)
 | [],_,s=>fy.refl s
 | x :: r,h,s=>(h x (fI ..) s).then (vZ (fun y a4=>h y (fh _ a4)) (f x s))
theorem v1 {us:Int} {f:du->dE->dE}:∀ {l:List du},(∀ y ∈ l,hw us (f y))->hw us (eS f l)
 | [],_,s=>fy.refl s
 | x :: r,h,s=>by
   show fy us _ s (eS f r (if fN s=true then s else f x s));have J:=v1 (l:=r) (fun y a4=>h y (fh _ a4));split
   . exact J s
   . exact (h x (fI ..) s).then (J _)
theorem Nq {us:Int} {f g:dE->dE} (Y:hw us f) (ak:hw us g):hw us (lR f g):=fun s=>by
 have U:=((Y s).jump 12 N9).then (ak _);have X:=(ak (eG 12 0 (f s))).le;rw [fS] at X;have aB:=(U.put 22 0 0 N9).jump 11 N9;have ar:=(aB.land (k:=(f s).code.length) (Or.inl (Or.inr rfl))).put 1 0 0 N9;have p:=ar.land (k:=(eq 22 0 0 (g (eG 12 0 (f s)))).code.length) ⟨Or.inr rfl,by rw [eQ];omega⟩;exact p.cong (fun k=>⟨False.elim,fun h=>O7⟩)
theorem Ns {us:Int} {f g:dE->dE} (Y:hw us f) (ak:hw us g):hw us (lT f g):=fun s=>by
 have aB:=(((Y s).jump 12 N9).put 1 1 0 N9).jump 11 N9;have bj:=aB.land (k:=(f s).code.length) (Or.inl (Or.inr rfl));have ar:=(bj.then (ak _)).put 22 0 0 N9;have p:=ar.land (k:=(eq 1 1 0 (eG 12 0 (f s))).code.length) ⟨Or.inr rfl,by rw [eQ,fS];omega⟩;exact p.cong (fun k=>⟨False.elim,fun h=>O7⟩)
theorem Nt {us:Int} {f g h:dE->dE} (Y:hw us f) (ak:hw us g) (al:hw us h) (e:Bool):hw us (mx f g h e):=fun s=>by
 have U:=((Y s).jump 12 N9).then (ak _);have X:=(ak (eG 12 0 (f s))).le;rw [fS] at X;unfold mx;simp only;split
 . exact (U.land (k:=(f s).code.length) (Or.inr rfl)).cong (fun k=>⟨False.elim,fun h=>O7⟩)
 . have aB:=(U.jump 11 N9).land (k:=(f s).code.length) (Or.inl (Or.inr rfl))
   have p:=(aB.then (al _)).land (k:=(g (eG 12 0 (f s))).code.length) ⟨Or.inr rfl,N7⟩;exact p.cong (fun k=>⟨False.elim,fun h=>O7⟩)
theorem Nu {us:Int} {f g:dE->dE} (Y:hw us f) (ak:hw us g):hw us (nT f g):=fun s=>by
 have U:=((((Y s).jump 12 N9).put 16 0 0 N9).then (ak _)).back 11 N9;exact (U.land (k:=(f s).code.length) (Or.inr rfl)).cong (fun k=>⟨False.elim,fun h=>O7⟩)
structure v2 (c:Ck):Prop where
 hn:∀ m at_ n:Int,1<=n->numB c m at_ n=true->(0<=at_/\at_<=2048)/\(0<=m/\m<=c.uses)
 hp:∀ m at_ k:Int,f6 c m at_ k=true->(0<=at_/\at_<=2048)/\(0<=m/\m<=c.uses)
 hl:c.locals<=64
theorem Nv (W:v2 c):∀ (k:Nat) (x:dB),eC c x=true->fO c k x.args=true->hw c.uses (dL (k+1) x):=by
 have A:∀ (k:Nat) (x:dB),eC c x=true->(∀ y ∈ x.args,hw c.uses (dL k y))->hw c.uses (dL (k+1) x):=by
  intro k x S aw s;obtain ⟨T,n,m,g,O⟩:=x
  have aO:∀ i,hw c.uses (dL k (dq O i)):=fun i s=>by
   by_cases V:i<O.length
   . rw [j7 _ _ V];exact aw _ (eb V) s
   . have:dq O i=yH:=by simp [dq,fV,mL (Nat.le_of_not_lt V)]
     rw [this]
     cases k with
     | zero=>exact fy.refl s
     | succ k=>exact (fy.refl s).put 10 0 0 N9
  rw [yK];unfold vN
  by_cases aJ:T=1
  . subst aJ
    have D:(decide (O.length=0)&&(decide (0<=n/\n<=1099511627775)&&(decide (m=0)&&decide (g=0))))=true:=S;simp only [dO,decide_eq_true_eq] at D;rw [if_pos rfl];exact (fy.refl s).put _ _ _ N7
  rw [if_neg aJ]
  by_cases aI:T=2
  . rw [if_pos aI];exact (fy.refl s).put _ _ _ N9
  rw [if_neg aI]
  by_cases bq:T=16
  . subst bq
    have:=W.hl;have D:(decide (O.length=0)&&(decide (n=0)&&(decide (m=0)&&kq c g)))=true:=S;simp only [kq,dO,decide_eq_true_eq] at D;rw [if_pos rfl];exact (fy.refl s).put _ _ _ N7
  rw [if_neg bq]
  by_cases bo:T=3
  . subst bo
    have D:(decide (O.length=0)&&(decide (n=0)&&numB c m g 1))=true:=S;simp only [dO] at D;rw [if_pos rfl];have:=W.hn _ _ _ N9 D.2.2;exact (fy.refl s).fix _ _ _ _ _ (Or.inr rfl) N7 this.2
  rw [if_neg bo]
  by_cases t:T=4
  . subst t
    have D:(decide (O.length=1)&&(decide (1<=n/\n<=32)&&numB c m g n))=true:=S;simp only [dO,decide_eq_true_eq] at D;rw [if_pos rfl];have:=W.hn _ _ _ D.2.1.1 D.2.2;exact ((aO 0 s).fix _ _ _ _ _ (Or.inr rfl) N7 this.2).put _ _ _ N9
  rw [if_neg t]
  by_cases am:T=5
  . subst am
    have D:(decide (n=0)&&f6 c m g O.length)=true:=S;simp only [dO] at D;rw [if_pos rfl];have:=W.hp _ _ _ D.2;exact (vZ aw s).fix _ _ _ _ _ (Or.inl rfl) N7 this.2
  rw [if_neg am];have X:=yL S aJ bq bo t am
  by_cases a:T=6
  . rw [if_pos a];exact (aO 0 s).put _ _ _ N9
  rw [if_neg a]
  by_cases b:T=7
  . rw [if_pos b];exact Nq (aO 0) (aO 1) s
  rw [if_neg b]
  by_cases d:T=8
  . rw [if_pos d];exact Ns (aO 0) (aO 1) s
  rw [if_neg d];refine (vZ aw s).put _ _ _ ?_;unfold kM at X;rw [if_neg aI,if_neg a] at X
  split at X<;>omega
 intro k
 induction k with
 | zero=>intro x F J;exact A 0 x F (fun y a4 s=>fy.refl s)
 | succ k ay=>
   exact Rl
theorem ze (W:v2 c):∀ (k:Nat) (l:List du),fb c k l=true->∀ y ∈ l,hw c.uses (fj k y)
 | 0,l,h=>by simp [fb] at h
 | k + 1,l,h=>fun y a4 s=>by
   obtain ⟨F,J,U,aa⟩:=DJ h a4;obtain ⟨T,n,m,g,O,ac,Z⟩:=y;obtain ⟨⟨bE,d⟩,j,P⟩:=yN F;simp only [du.args,du.body,du.other] at J U aa
   have aw:∀ aX ∈ O,hw c.uses (dL 6 aX):=fun aX b2=>by
    rw [show fO c 6 O=O.all (fun x=>eC c x&&fO c 5 x.args) from rfl,e1] at J;have aB:=J aX b2;rw [dO] at aB;exact Nv W 5 aX aB.1 aB.2
   have aO:∀ i,i<O.length->hw c.uses (dL 6 (dq O i)):=fun i V=>by
    rw [j7 _ _ V];exact aw _ (eb V)
   have nil:∀ (q:List du),q.length=0->hw c.uses (eS (fj k) q):=fun q b3 s=>by
    rw [hF b3];exact fy.refl s
   have aF:hw c.uses (eS (fj k) ac):=by
    rcases U with U | U
    . exact v1 (ze W k _ U)
    . exact nil _ U
   have b6:hw c.uses (eS (fj k) Z):=by
    rcases aa with aa | aa
    . exact v1 (ze W k _ aa)
    . exact nil _ aa
   rw [yM];unfold vO
   by_cases bq:T=3
   . subst bq
     have o:(decide (n=0)&&f6 c m g O.length)=true:=F;simp only [dO] at o;have:=W.hp _ _ _ o.2;simp only [show ¬ ((3:Int)=1) from N9,show ¬ ((3:Int)=2) from N9,if_true,if_false];exact ((vZ aw s).fix _ _ _ _ _ (Or.inl rfl) N7 this.2).put _ _ _ N9
   have bK:0<O.length:=by
    exact ST
   have ab:=aO 0 bK
   by_cases aJ:T=1
   . subst aJ
     have o:(decide (O.length=1)&&(decide (n=0)&&(if m = -1 then kq c g else numB c m g 1)))=true:=F;rw [dO,dO] at o;have aB:=o.2.2;rw [if_pos rfl];unfold oY;split
     . rename_i u
       rw [if_pos u] at aB;have:=W.hl;simp only [kq,decide_eq_true_eq] at aB;exact (ab s).put _ _ _ N7
     . rename_i u
       rw [if_neg u] at aB;have:=W.hn _ _ _ N9 aB;exact (ab s).fix _ _ _ _ _ (Or.inr rfl) N7 this.2
   rw [if_neg aJ]
   by_cases aI:T=2
   . subst aI
     have ar:=aO 1 (by have:=j rfl;omega);have o:(decide (O.length=2)&&(decide (1<=n/\n<=32)&&numB c m g n))=true:=F;simp only [dO,decide_eq_true_eq] at o;have:=W.hn _ _ _ o.2.1.1 o.2.2;rw [if_pos rfl];exact (((ab s).fix _ _ _ _ _ (Or.inr rfl) N7 this.2).then (ar _)).put _ _ _ N9
   rw [if_neg aI,if_neg bq]
   by_cases bo:T=4
   . rw [if_pos bo];exact Nt ab aF b6 _ s
   rw [if_neg bo]
   by_cases t:T=5
   . rw [if_pos t];exact Nu ab aF s
   rw [if_neg t]
   by_cases am:T=6
   . rw [if_pos am];exact (ab s).put _ _ _ N9
   rw [if_neg am]
   by_cases a:T=7
   . rw [if_pos a];exact (ab s).put _ _ _ N9
   rw [if_neg a];exact fy.refl s
theorem D4 (W:v2 c) (p:e5) (h:fb c 6 p.body=true) (aA:iG p=true) (s:dE):∃ t,fy c.uses (fun _=>False) s t/\s.code.length<t.code.length/\iK p s=eq 15 0 0 (eq 1 0 0 t):=by
 unfold iG at aA;simp only [dO,decide_eq_true_eq] at aA;have F:=(fy.refl (us:=c.uses) s).put 14 p.params p.locals N7;have J:=v1 (ze W 6 p.body h) (eq 14 p.params p.locals s);have:=J.le;rw [eQ] at this;exact ⟨_,F.then J,N7,rfl⟩
end Go.Proofs.YtndkhgakfodldaaGreatDoor

namespace Go.Proofs.YtndkhgakfodldaaGreatDoor
open Go.RowKit Go.Maps Go.WideMaps
variable {A:Nat->Prop} {B n sz:Nat} {K:List (Nat × Obj)} {M w G:World} {e:TypeId} {q:Nat->Bool} {v:Value} {ao:List Value}
def intV (l:List Int):List Value:=l.map (Value.int .i64 ·)
theorem D5 (l:List Int) (x:Int):intV (l++[x])=intV l++[di x]:=by simp [intV]
def Nw (B:Nat) (v:Value) (p:List Int) (E:List (Nat × Obj)):Prop:=
 (p=[]/\v=dt/\E=[])\/∃ g q o,v = .slice (some (dj g 0)) p.length q/\E=[(g,.cells o 3)]/\B<=g/\p.length<=q/\q<=maxLen/\o.size=q*1/\o.toList.take (p.length*1)=intV p
def gX (w0 w:World) (R:Nat) (K:List (Nat × Obj)) (s:dE) (v:Value) (p:List Int):Prop:=∃ E,Nw w0.heap.size v p E/\dS w0 w R (E++K) s/\∀ x ∈ K,v.ownBlock≠some x.1
section
variable {w0 w G:World} {R:Nat} {K:List (Nat × Obj)} {s:dE} {v:Value} {p:List Int}
theorem gX.start (h:dS w0 w R K s):gX w0 w R K s (dt) []:=⟨[],Or.inl ⟨rfl,rfl,rfl⟩,h,fun x _ e=>Pp⟩
theorem gX.own (h:gX w0 w R K s v p):w.ownsRow w0.heap.size 3 1 v p.length (intV p):=by
 obtain ⟨E,aG,aj,_⟩:=h;refine ⟨by simp [intV],?_⟩
 rcases aG with ⟨F,J,_⟩ | ⟨g,q,o,af,aG,aF,U,aa,aB,bj⟩
 . exact Or.inl ⟨J,by rw [F];rfl⟩
 . subst aG
   exact Or.inr ⟨g,q,o,af,aF,aj.head,U,aa,aB,bj⟩
theorem gX.form (h:gX w0 w R K s v p):∃ a q,v = .slice a p.length q/\p.length<=q/\q<=maxLen:=hS h.own
theorem gX.wri (h:gX w0 w R K s v p):dS w0 w R K s:=by
 obtain ⟨E,_,aj,_⟩:=h;exact aj.sub (fun x S=>qy _ S)
theorem gX.later (h:gX w0 w R K s v p) (I:dm w G):gX w0 G R K s v p:=by
 obtain ⟨E,aG,aj,S⟩:=h;exact ⟨E,aG,aj.later I,S⟩
theorem gX.alloc (h:gX w0 w R K s v p) (o:Obj):gX w0 (w.alloc o) R K s v p:=h.later ((Below.refl _ _).alloc (dA _) o)
theorem gX.box (h:gX w0 w R K s v p) (o:Obj):gX w0 (w.alloc o) R ((w.heap.size,o) :: K) s v p:=by
 have T:=h.own;obtain ⟨E,aG,aj,S⟩:=h;refine ⟨E,aG,(aj.box o).sub (fun x S=>?_),fun x a1=>?_⟩
 . rcases jF.1 S with F | F
   . exact fh _ (rN _ F)
   . rcases kk.1 F with rfl | F
     . exact fI ..
     . exact fh _ (qy _ F)
 . rcases kk.1 a1 with rfl | a1
   . intro e
     have:=(T.lt _ e).2;simp only at this;omega
   . exact S x a1
theorem gX.tail {x:Nat × Obj} (h:gX w0 w R (x :: K) s v p):gX w0 w R K s v p:=by
 obtain ⟨E,aG,aj,S⟩:=h;refine ⟨E,aG,aj.sub (fun y a4=>?_),fun y a4=>S y (fh _ a4)⟩
 rcases jF.1 a4 with F | F
 . exact rN _ F
 . exact qy _ (fh _ F)
theorem gX.call {P:Program} {f:FuncId} {O:Array Value} {s':dE} (h:gX w0 w R K s v p) (W:∀ K',dS w0 w R K' s->Calls P f O w fun e G=>e = .returned (.tuple #[])/\dS w0 G R K' s') :
 Calls P f O w fun e G=>e = .returned (.tuple #[])/\gX w0 G R K s' v p:=by
 obtain ⟨E,aG,aj,S⟩:=h;exact (W _ aj).mono (fun e G h=>⟨h.1,E,aG,h.2,S⟩)
theorem gX.onto {x:Int} {g q:Nat} (h:gX w0 w R K s v p) (ap:qV w G w0.heap.size 3 1 v p.length g q (intV p++[di x])) :
 gX w0 G R K s (.slice (some (dj g 0)) (p.length+1) q) (p++[x]):=by
 have T:=h.own;obtain ⟨E,aG,⟨X,aA,z,aj⟩,S⟩:=h
 have af:∀ k,v.ownBlock=some k->k≠R/\aA.ownBlock≠some k/\z.ownBlock≠some k:=fun k N=>by
  rcases aG with ⟨_,J,_⟩ | ⟨ac,f,o,af,aG,_⟩
  . rw [J] at N;simp [Value.ownBlock] at N
  . subst aG
    rw [af] at N;simp only [Value.ownBlock,kJ] at N;subst N;obtain ⟨_,J,U,aa⟩:=aj.kp (ac,.cells o 3) (rN _ (fI ..));exact ⟨J,U,aa⟩
 have c0:∀ k,k<w.heap.size->v.ownBlock≠some k->g≠k:=fun k N aX e=>by
  rcases ap.at_ with F | F
  . exact aX (by rw [F,e])
  . omega
 rcases ap.own.2 with ⟨F,_⟩ | ⟨ac,f,o,n,aF,ak,U,aa,aB,bj⟩
 . cases F
 cases n
 have i:∀ k,aA.ownBlock=some k->v.ownBlock≠some k:=fun k F J=>(af k J).2.1 F
 have b:∀ k,z.ownBlock=some k->v.ownBlock≠some k:=fun k F J=>(af k J).2.2 F
 have a:∀ k,k<w.heap.size->v.ownBlock≠some k->G.heap[k]? = w.heap[k]?:=fun k N aX=>
  (ap.old k _ (qx N) aX).trans (qx N).symm
 refine ⟨[(g,.cells o 3)],Or.inr ⟨g,q,o,by rw [eM];rfl,rfl,aF,by rw [eM];exact U,aa,aB,by rw [eM,D5];exact bj⟩,⟨X,aA,z,?_⟩,fun y a4 e=>?_⟩
 . exact {
    blk:=(a R aj.ltR (fun e=>(af R e).1 rfl)).trans aj.blk
    hR:=aj.hR
    code:=iZ aj.code (fun k N=>a k (aj.code.lt k N).2 (i k N))
    fix:=iZ aj.fix (fun k N=>a k (aj.fix.lt k N).2 (b k N))
    apt:=aj.apt
    nc:=aj.nc
    nf:=aj.nf
    below:=aj.below.trans ap.below
    kp :=fun y a4=>by
     rcases jF.1 a4 with ar | ar
     . rw [l8] at ar
       subst ar;refine ⟨ak,c0 R aj.ltR (fun e=>(af R e).1 rfl),fun e=>?_,fun e=>?_⟩
       . exact c0 g (aj.code.lt g e).2 (i g e) rfl
       . exact c0 g (aj.fix.lt g e).2 (b g e) rfl
     . obtain ⟨a9,au,k3,aH⟩:=aj.kp y (qy _ ar)
       exact ⟨ap.old _ _ a9 (S y ar),au,k3,aH⟩}
 . have a9:=(aj.kp y (qy _ a4)).1
   simp only [Value.ownBlock,kJ] at e;exact c0 y.1 (lt_of_heap a9) (S y a4) e
end
theorem D6 (l:List ByteArray) (x:ByteArray) (a:OA) (q:Nat) (w:World) (h:dx w dQ a l.length (eH l)) :
 dw 76 #[.slice a l.length q,.string x] w fun e G=>e = .returned (.bool (Go.Lib.containsS l x))/\G=w:=by
 have I:=h.bound
 rcases (mm h).1 with rfl | ⟨p,C,rfl,_,W⟩
 . have:Go.Lib.containsS [] x=false:=by
    cases b3:Go.Lib.containsS [] x with
    | false=>rfl
    | true=>have:=(Go.Lib.containsS_iff [] x).1 b3;simp at this
   rw [this];exact Tryz.slices_Contains_string_empty a q x w
 . have:=Tryz.slices_Contains_string p C l.length q l x w (dA _) N7 (fun j a2=>by rw [W j a2];simp [fV,a2])
   rw [gu] at this;exact this
def q2 (w:World) (u:dN) (e:Ending) (G:World):Prop:=
 match iy u with
 | .error c=>e = .returned (.tuple #[.agg #[.string ⟨#[]⟩,.slice none 0 0,.int .i64 0,.slice none 0 0,.slice none 0 0,.slice none 0 0,.int .i64 0],.int .i64 c])
 | .ok o=>∃ aI aD a8 aB a7 ab ae a,e = .returned (.tuple #[.agg #[.string o.name,.slice aI o.uses.length aD,.int .i64 o.data,.slice a8 o.code.length aB,.slice a7 o.fixes.length ab,.slice ae o.entries.length a,.int .i64 o.main],.int .i64 0])/\
  G.ownsRow w.heap.size 9 1 (.slice aI o.uses.length aD) o.uses.length (strV o.uses)/\G.ownsRow w.heap.size 69 3 (.slice a8 o.code.length aB) o.code.length (fw o.code)/\
  G.ownsRow w.heap.size 67 3 (.slice a7 o.fixes.length ab) o.fixes.length (m3 o.fixes)/\G.ownsRow w.heap.size 3 1 (.slice ae o.entries.length a) o.entries.length (intV o.entries)
theorem D7 {b:Nat} (h:Below B w G) (I:B<=b) (aw aF aM bl a8 u o:Value) :
 Below B w (((((((G.setCell (dj b 0) aw).setCell (dj b 1) aF).setCell (dj b 2) aM).setCell (dj b 3) bl).setCell (dj b 4) a8).setCell (dj b 5) u).setCell (dj b 6) o):=
 (((((((h.setCell (p:=(dj b 0)) I aw).setCell (p:=(dj b 1)) I aF).setCell (p:=(dj b 2)) I aM).setCell (p:=(dj b 3)) I bl).setCell (p:=(dj b 4)) I a8).setCell (p:=(dj b 5)) I u).setCell (p:=(dj b 6)) I o)
theorem Tryz.infoInt:(prog.info? 3).map (fun i=>(i.zero,i.size,i.bytes))=some (some (di 0),1,8):=by kernel_rfl
theorem dS.new {w0:World} (I:dm w0 w) (aO:∀ x ∈ K,w.heap[x.1]? = some x.2):dS w0 (w.alloc (.cells #[dt,dt] 136)) w.heap.size K kR:=
 ⟨dA _,_,_,{
  blk:=dX _ _
  hR:=I.size
  code:=jU _ _ _ _
  fix:=jU _ _ _ _
  apt:=hP.nil _
  nc:=fun e=>Pp
  nf:=fun e=>Pp
  below:=I.alloc I.size _
  kp:=fun x S=>⟨eR (aO x S),fun e=>by have:=lt_of_heap (aO x S);omega,fun e=>Pp,fun e=>Pp⟩}⟩
theorem tN {u:dN} (h:gb u=true):u.uses.length<=3:=by
 unfold gb at h;rw [dO] at h;exact (th (tj (of_decide_eq_true h.1))).1
theorem v6 {b:Nat} (h:M.ownsRow B e sz v n ao) (I:v.ownBlock≠some b) (aw aF aM bl a8 u o:Value) :
 (((((((M.setCell (dj b 0) aw).setCell (dj b 1) aF).setCell (dj b 2) aM).setCell (dj b 3) bl).setCell (dj b 4) a8).setCell (dj b 5) u).setCell (dj b 6) o).ownsRow B e sz v n ao:=by
 refine iZ h (fun k N=>?_)
 have aX:k≠b:=fun e=>I (by rw [N,e])
 rw [eh (p:=(dj b 6)) aX,eh (p:=(dj b 5)) aX,eh (p:=(dj b 4)) aX,eh (p:=(dj b 3)) aX,eh (p:=(dj b 2)) aX,eh (p:=(dj b 1)) aX,eh (p:=(dj b 0)) aX]
theorem Nx {B':Nat} (h:M.ownsRow B e sz v n ao) (I:B'<=B):M.ownsRow B' e sz v n ao:=by
 refine ⟨h.1,?_⟩
 rcases h.2 with F | ⟨g,q,o,af,aF,Q⟩
 . exact Or.inl F
 . exact Or.inr ⟨g,q,o,af,fZ I aF,Q⟩
theorem gX.has {w0:World} {R:Nat} {s:dE} {p:List Int} (h:gX w0 w R K s v p) {b:Nat} {o:Obj} (S:(b,o) ∈ K):w.heap[b]? = some o:=h.wri.has S
theorem Ny (u:dN) (a4:OA) (ad:Nat) (am:OA) (f:Nat) (a5:OA) (y3:Nat) (w:World) (b3:kN w u a4 ad am f a5 y3) (W:Go.Lib.containsS u.uses u.name=false) (al:hf u gL gz=true) :
 dw 31 #[.agg #[.string u.name,.slice a4 u.uses.length ad,di u.data,.slice am u.parts.length f,.slice a5 u.main.length y3]] w fun e G=>q2 w u e G/\dm w G:=by
 have O:Hid (dm w ((w.alloc (fF u.name a4 u.uses.length ad u.data am u.parts.length f a5 u.main.length y3)).alloc (iP ⟨#[]⟩ none 0 0 0 none 0 0 none 0 0 none 0 0 0))):=((Below.refl _ _).alloc (dA _) _).alloc Ob _;have ao:=hid (D6 u.uses u.name a4 ad _ (b3.later O).uses);have aL:=hid (Nc u a4 ad am f a5 y3 _ (b3.later O));have aq:=b3.uses.bound;have V:=b3.parts.bound;have bA:=hid b3;have b2:=hid (fun j a2=>yR al j a2);have A:=hid (kS al);have bj:=qW A.2.2;have cp:u.uses.length<=3:=tN A.2.2;have aP:=hid (vR al)
 have a3:Hid (¬ (Go.Lib.containsS u.uses u.name || !hf u gL gz)=true):=by show ¬ _;rw [W,al];decide
 rw [W] at ao;rw [al] at aL;clear W al b3;go_enter func31,ntmps31;go_wp2_with fail;refine ao.mono ?_;rintro e G ⟨rfl,rfl⟩;go_wp2_with fail;refine aL.mono ?_;rintro e dC ⟨rfl,T⟩
 have bJ:Hid (∀ x ∈ [(w.heap.size,(fF u.name a4 u.uses.length ad u.data am u.parts.length f a5 u.main.length y3)),(w.heap.size+1,(iP ⟨#[]⟩ none 0 0 0 none 0 0 none 0 0 none 0 0 0))],dC.heap[x.1]? = some x.2):=fun x S=>by
  have F:=dX (w.alloc (fF u.name a4 u.uses.length ad u.data am u.parts.length f a5 u.main.length y3)) (iP ⟨#[]⟩ none 0 0 0 none 0 0 none 0 0 none 0 0 0);rw [pv] at F;have J:((w.alloc (fF u.name a4 u.uses.length ad u.data am u.parts.length f a5 u.main.length y3)).alloc (iP ⟨#[]⟩ none 0 0 0 none 0 0 none 0 0 none 0 0 0)).heap[w.heap.size]? = some (fF u.name a4 u.uses.length ad u.data am u.parts.length f a5 u.main.length y3):=eR (dX w (fF u.name a4 u.uses.length ad u.data am u.parts.length f a5 u.main.length y3))
  rcases kk.1 S with rfl | S
  . exact (T.block w.heap.size Of).trans J
  . rw [l8] at S
    subst S;exact (T.block (w.heap.size+1) Ob).trans F
 have aS:=hid (dS.new (dp O T) bJ);obtain ⟨u0,u1,u2,u3,u4,uf⟩:=ep (bJ (w.heap.size,(fF u.name a4 u.uses.length ad u.data am u.parts.length f a5 u.main.length y3)) (fI ..));have K:=lt_of_heap (bJ (w.heap.size,(fF u.name a4 u.uses.length ad u.data am u.parts.length f a5 u.main.length y3)) (fI ..));clear T;go_wp2_with fail;clear u0 u1 u2 u3 u4 uf K;generalize H:dC.heap.size=R at *;generalize U:dC.alloc (.cells #[dt,dt] 136)=dD at *
 go_loopw [5,28] (fun v i wr=>∃ j:Nat,j<=u.parts.length/\i=di j/\gX w wr R [(w.heap.size,(fF u.name a4 u.uses.length ad u.data am u.parts.length f a5 u.main.length y3)),(w.heap.size+1,(iP ⟨#[]⟩ none 0 0 0 none 0 0 none 0 0 none 0 0 0))] (f7 (u.parts.take j)) v (p0 u.parts j)) (fun _ i _=>u.parts.length - (intOf i).toNat)
 case atStart=>exact ⟨0,dY _,rfl,gX.start aS⟩
 case round=>
  obtain ⟨j,a2,rfl,aj⟩:=hrel;have d:=hid aj;obtain ⟨ae,a,rfl, -, -⟩:=aj.form;rw [nW] at *;clear aj
  by_cases ac:j<u.parts.length
  . obtain ⟨p,C,b0,aE,rfl,S⟩:=bA.parts.pt j ac
    have aF:=d.wri.below;have bb:p<wr.heap.size:=e4 S.lt aF.size;have bf:=(aF.cell (p:=⟨p,C+j*3,none⟩) S.lt).trans S.c0;have be:=(aF.cell (p:=⟨p,C+j*3+1,none⟩) S.lt).trans S.c1;have b9:=(aF.cell (p:=⟨p,C+j*3+2,none⟩) S.lt).trans S.c2;have aR:=hid S.body';have aM:=hid (yQ u.parts j ac);have br:=hid (A.1 _ (eb ac));have aQ:=hid (b2 (j+1) N7);have Q:=hid (b2 j a2);rw [aM.out] at aQ;clear S aF;generalize u.parts[j]=D at *;have ag:=hid (d.box (jA D.params D.locals b0 D.body.length aE));have au:=hid ag.own;rw [nW] at au;go_wp2_with fail;refine (so ag.wri).mono ?_;rintro e dJ ⟨rfl,rfl⟩
    go_wp2_with (at_builtin;refine tC rfl (.tmp 32) (.tmp 35) 49 rfl w.heap.size 3 _ 1 8 Tryz.underlying49 Tryz.infoInt rfl N9 (wr.alloc (jA D.params D.locals b0 D.body.length aE)) (.slice ae j a) j (intV (p0 u.parts j)) rfl au #[di (f7 (u.parts.take j)).code.length] (wr.heap.size+1) Ob rfl rfl (by simp;rfl) N7 N9 ag.wri.below.size _ rfl ?_;intro bL av dJ ap;have P:=hid (ag.onto (x:=((f7 (u.parts.take j)).code.length:Int)) (by rw [nW];exact ap));rw [nW,← Nd] at P;obtain ⟨aH,az,aK, -⟩:=nP (P.has (fI ..));clear ap)
    refine (P.call (fun K' h=>DL (q:=aE) br aR h (by have:=aQ.out;omega))).mono ?_;rintro e eD ⟨rfl,h6'⟩;have b:=hid h6';clear h6' aH az aK;go_wp2_with fail;go_roundw
    case rel=>exact ⟨j+1,N7,Ou,by rw [aM.out];exact b.tail⟩
    case measure=>simp [intOf];omega
  . obtain rfl:j=u.parts.length:=by omega
    rw [gu] at d;have L:=hid (b2 _ (dA _));rw [gu] at L;obtain ⟨u0,u1,u2,u3,u4,uf⟩:=ep (d.has (fI ..));go_wp2_with fail;refine (so d.wri).mono ?_;rintro e dJ ⟨rfl,rfl⟩;go_wp2_with fail;refine (d.call (fun K' h=>DL (p:=⟨0,0,u.main⟩) (q:=y3) A.2.1 bA.main h (by have:=aP.out;unfold e9 at this;omega))).mono ?_;rintro e eD ⟨rfl,h6'⟩;have b:Hid (gX w eD R [(w.heap.size,(fF u.name a4 u.uses.length ad u.data am u.parts.length f a5 u.main.length y3)),(w.heap.size+1,(iP ⟨#[]⟩ none 0 0 0 none 0 0 none 0 0 none 0 0 0))] (e9 u) (.slice ae u.parts.length a) (p0 u.parts u.parts.length)):=h6';clear h6' u0 u1 u2 u3 u4 uf;go_wp2_with fail;refine (DA b.wri).mono ?_
    cases Y:fN (e9 u) with
    | true=>
      rintro e eP ⟨rfl,rfl⟩
      have bz:Hid (iy u = .error 2):=by show _=_;unfold iy;rw [if_neg a3.out,if_pos Y]
      have N:=b.has (b:=w.heap.size+1) (fh _ (fI ..));obtain ⟨aH,az,aK,aW,bg,q5,q6,b5⟩:=fi N;have c:=lt_of_heap N
      have bY:∀ j,eP.frozen? ⟨w.heap.size+1,j,none⟩=false:=fun j=>hD N j
      have bW:=hid b.wri.below;clear N Y;go_wp2_with fail;refine bodyPost_ret (v:=.tuple #[.agg #[.string ⟨#[]⟩,dt,di 0,dt,dt,dt,di 0],di 2]) (by simp [results,results31,go_sem,aH,az,aK,aW,bg,q5,q6,c]) rfl ⟨by unfold q2;rw [bz.out],?_⟩;exact D7 bW N7 _ _ _ _ _ _ _
    | false=>
      rintro e eP ⟨rfl,rfl⟩
      have bz:Hid (iy u = .ok (eg u)):=by show _=_;unfold iy;rw [if_neg a3.out,if_neg (by rw [Y];decide)]
      obtain ⟨u0,u1,u2,u3,u4,uf⟩:=ep (b.has (fI ..));have c6:=lt_of_heap (b.has (fI ..));have M:=b.has (b:=w.heap.size+1) (fh _ (fI ..));obtain ⟨aa,bw,hr8,ho8,hg8⟩:=vy eP.heap.size 22 (dt) 0 [] (jU _ _ _ _) u.uses a4 ad (mm (bA.later b.wri.below).uses).1 N7 (dA _);rw [fY,List.nil_append] at ho8;have n:dm eP bw:=(Below.refl _ eP).grown hg8 (dA _) (fun k N=>by simp [Value.ownBlock] at N);have aN:=hid ho8;have l:=hid hr8;have y:=b.later n;obtain ⟨E,aG,⟨c4,aA,z,aO⟩,hxx⟩:=y;have t:=(b.later n).own;rw [nW] at t
      have g:=(aO.kp (w.heap.size+1,(iP ⟨#[]⟩ none 0 0 0 none 0 0 none 0 0 none 0 0 0)) (qy _ (fh _ (fI ..))))
      have r:=(aO.kp (w.heap.size,(fF u.name a4 u.uses.length ad u.data am u.parts.length f a5 u.main.length y3)) (qy _ (fI ..))).1;have B:=hid (hxx (w.heap.size+1,(iP ⟨#[]⟩ none 0 0 0 none 0 0 none 0 0 none 0 0 0)) (fh _ (fI ..)))
      have s:Hid (aa.ownBlock≠some (w.heap.size+1)):=fun e=>by
       have F:=(aN.lt _ e).1;have J:=lt_of_heap M;omega
      have o:=hid aO;have c5:=hid t;have cs:=hid g;obtain ⟨aI,aD,rfl, -⟩:=vz ho8;obtain ⟨a8,aB,rfl, -, -⟩:=hS aO.code;obtain ⟨a7,ab,rfl, -, -⟩:=hS aO.fix;obtain ⟨bt,ah, -⟩:=o.cells;have a6:=o.ltR;obtain ⟨aH,az,aK,aW,bg,q5,q6,b5⟩:=fi g.1
      have bY:∀ j,bw.frozen? ⟨w.heap.size+1,j,none⟩=false:=fun j=>hD g.1 j
      have m:=lt_of_heap g.1;clear n ho8 hg8 hr8 Y aG c4 aO hxx t M g
      go_wp2_with (at_builtin;refine Lib.wpList_append_run _ rfl _ _ _ _ rfl _ _ rfl rfl _ bw l ?_)
      clear u0 u1 u2 u3 u4 uf c6;obtain ⟨u0,u1,u2,u3,u4,uf⟩:=ep r;have c6:=lt_of_heap r;clear r;have I:Hid (w.heap.size<=eP.heap.size):=b.wri.below.size
      go_region
      go_wp2_with fail;refine bodyPost_ret (v:=.tuple #[.agg #[.string u.name,.slice aI u.uses.length aD,di u.data,.slice a8 (e9 u).code.length aB,.slice a7 (e9 u).fixes.length ab,.slice ae u.parts.length a,di (f7 u.parts).code.length],di 0]) (by simp [results,results31,go_sem,aH,az,aK,aW,bg,q5,q6,m]) rfl ⟨?_,?_⟩
      . unfold q2
        rw [bz.out];have aY:(eg u).entries.length=u.parts.length:=nW ..;refine ⟨aI,aD,a8,aB,a7,ab,ae,a,by rw [aY];rfl,?_,?_,?_,?_⟩
        . exact (Nx (v6 aN s _ _ _ _ _ _ _) I).drew
        . exact (v6 o.code cs.2.2.1 _ _ _ _ _ _ _).drew
        . exact (v6 o.fix cs.2.2.2 _ _ _ _ _ _ _).drew
        . rw [aY]
          exact (v6 c5 B _ _ _ _ _ _ _).drew
      . exact (D7 o.below N7 _ _ _ _ _ _ _).drew
theorem zg (u:dN) (a4:OA) (ad:Nat) (am:OA) (f:Nat) (a5:OA) (y3:Nat) (w:World) (b3:kN w u a4 ad am f a5 y3) (F:iy u≠.error 1) :
 dw 31 #[.agg #[.string u.name,.slice a4 u.uses.length ad,di u.data,.slice am u.parts.length f,.slice a5 u.main.length y3]] w fun e G=>q2 w u e G/\dm w G:=by
 by_cases W:(Go.Lib.containsS u.uses u.name || !hf u gL gz)=true
 . exact absurd (by unfold iy;rw [if_pos W]) F
 . simp only [nE,hG] at W
   exact Ny u a4 ad am f a5 y3 w b3 W.1 (by simpa using W.2)
def eK.ds (i:eK):List D:=[.int i.op,.int i.a,.int i.b]
def lV (l:List eK):List D:=l.flatMap eK.ds
def gd.ds (f:gd):List D:=[.int f.at_,.int f.kind,.int f.m]
def o8 (l:List gd):List D:=l.flatMap gd.ds
def fs (l:List Int):List D:=l.map D.int
def dP.ds (o:dP):List D:=[.str o.name,.list o.uses.length (eH o.uses),.int o.data,.list o.code.length (lV o.code),.list o.fixes.length (o8 o.fixes),.list o.entries.length (fs o.entries),.int o.main]
structure i1 (w:World) (o:dP) (x1:OA) (x3:OA) (x4:OA) (x5:OA):Prop where
 wn:o.name.size<=maxLen
 uses:dx w dQ x1 o.uses.length (eH o.uses)
 wd:(Lit.int .i64 o.data).wf=true
 code:dx w dQ x3 o.code.length (lV o.code)
 fixes:dx w dQ x4 o.fixes.length (o8 o.fixes)
 entries:dx w dQ x5 o.entries.length (fs o.entries)
 wm:(Lit.int .i64 o.main).wf=true
theorem i1.later {o:dP} {a4 a5 ax aG:OA} (h:i1 w o a4 a5 ax aG) (I:dm w G):i1 G o a4 a5 ax aG:=
 ⟨h.wn,h.uses.later I,h.wd,h.code.later I,h.fixes.later I,h.entries.later I,h.wm⟩
def kv (o:dP):Bool:=decide (3<o.uses.length)||(decide (6<o.entries.length)||(decide (o.code.length<1)||decide (2048<o.code.length)))
def jg (o:dP) (x:Int):Bool:=decide (0<=x/\x<o.code.length)
theorem D8 (s:ByteArray) (w:World) (a8:s.size<=maxLen) :
 dw 131 #[.string s] w fun e G=>e = .returned (.bool (Lx.zck s.data.toList))/\dm w G:=by
 have bJ:Hid ((jm [⟨1,0,s⟩] == 0)=Lx.zck s.data.toList):=by rw [← Ce];exact Cb ⟨1,0,s⟩ rfl
 have ao:Hid (∀ (dk:World) (n:Nat),n=dk.heap.size->dw 116 #[.slice (some (dj n 0)) 1 1] (dk.alloc (.cells #[di 1,di 0,.string s] 184)) fun e G=>e = .returned (di (jm [⟨1,0,s⟩]))/\dm dk G):=
  fun dk n Z=>by
   subst Z;refine (Check_any _ 1 [⟨1,0,s⟩] _ (Cc ⟨1,0,s⟩ dk a8) Ob).mono ?_;rintro e G ⟨rfl,I⟩;exact Rj
 go_enter func131,ntmps131
 go_wp2_with (go_at_call 116;refine (ao _ _ Ob).mono ?_;rintro e G ⟨rfl,I⟩)
 go_ret;exact ⟨ret_bool bJ,I⟩
theorem D9 (o:dP) (s:ByteArray) (a4:OA) (ap ad:Nat) (d:Int) (a5:OA) (y3:Nat) (ax:OA) (aQ y4:Nat) (aG:OA) (v y5:Nat) (m x:Int) (w:World) (I:o.code.length<=17592186044416) :
 dw 132 #[.agg #[.string s,.slice a4 ap ad,di d,.slice a5 o.code.length y3,.slice ax aQ y4,.slice aG v y5,di m],di x] w fun e G=>e = .returned (.bool (jg o x))/\dm w G:=by
 by_cases t:0<=x
 . have z:Hid (jg o x=decide (x<o.code.length)):=by show _=_;unfold jg;exact decide_eq_decide.2 ⟨fun h=>h.2,fun h=>⟨t,h⟩⟩
   go_enter func132,ntmps132;exact Sd
 . have z:Hid (jg o x=false):=by show _=_;unfold jg;exact decide_eq_false (fun h=>t h.1)
   have D:x<0:=N7
   clear t;go_enter func132,ntmps132;exact Sd
theorem Nz (o:dP) (s:ByteArray) (a4:OA) (ad:Nat) (d:Int) (a5:OA) (y3:Nat) (ax:OA) (aQ y4:Nat) (aG:OA) (y5:Nat) (m:Int) (w:World) (F:o.uses.length<=17592186044416) (U:o.code.length<=17592186044416) (aB:o.entries.length<=17592186044416) :
 dw 81 #[.agg #[.string s,.slice a4 o.uses.length ad,di d,.slice a5 o.code.length y3,.slice ax aQ y4,.slice aG o.entries.length y5,di m]] w fun e G=>e = .returned (.bool (kv o))/\dm w G:=by
 have z:Hid (kv o=(decide (3<o.uses.length)||(decide (6<o.entries.length)||(decide (o.code.length<1)||decide (2048<o.code.length))))):=rfl
 by_cases b8:3<o.uses.length
 . have aM:Hid (kv o=true):=by show _=_;rw [z.out,decide_eq_true b8];rfl
   have l:(3:Int)<o.uses.length:=N7
   exact Ra
 by_cases b7:6<o.entries.length
 . have aM:Hid (kv o=true):=by show _=_;rw [z.out,decide_eq_true b7,decide_eq_false b8];rfl
   have l:¬ (3:Int)<o.uses.length:=N7
   have t:(6:Int)<o.entries.length:=N7
   exact Ra
 have l:¬ (3:Int)<o.uses.length:=N7
 have t:¬ (6:Int)<o.entries.length:=N7
 by_cases b6:o.code.length<1
 . have aM:Hid (kv o=true):=by show _=_;rw [z.out,decide_eq_true b6,decide_eq_false b8,decide_eq_false b7];rfl
   have a:(o.code.length:Int)<1:=N7
   clear b6;exact Ra
 . have aM:Hid (kv o=decide (2048<o.code.length)):=by show _=_;rw [z.out,decide_eq_false b6,decide_eq_false b8,decide_eq_false b7];rfl
   have a:¬ (o.code.length:Int)<1:=N7
   clear b6;exact Ra
abbrev kU (o:dP) (a:OA) (b:Nat) (c:OA) (e:Nat) (f:OA) (g:Nat) (h:OA) (i:Nat):Obj:=iP o.name a o.uses.length b o.data c o.code.length e f o.fixes.length g h o.entries.length i o.main
structure NA (w:World) (b o:Nat) (x:eK):Prop where
 lt:b<w.heap.size
 c0:w.cell? (dj b o)=some (di x.op)
 c1:w.cell? ⟨b,o+1,none⟩=some (di x.a)
 c2:w.cell? ⟨b,o+2,none⟩=some (di x.b)
 w0:(Lit.int .i64 x.op).wf=true
 dk:(Lit.int .i64 x.a).wf=true
 w2:(Lit.int .i64 x.b).wf=true
theorem dx.gi {a:OA} {l:List eK} (h:dx w A a l.length (lV l)) (i:Nat) (V:i<l.length):∃ p C,a=some (dj p C)/\NA w p (C+i*3) l[i]:=by
 obtain ⟨p,C,a7,I,W⟩:=h.cell N7;generalize S:l[i]=x;obtain ⟨T,O,aL⟩:=x
 have g:∀ j d,j<3->(eK.mk T O aL).ds[j]? = some d->∃ v,w.cell? ⟨p,C+i*3+j,none⟩=some v/\eO w A d v:=fun j d a2 hd=>by
  rw [ie];exact W (i*3+j) d ((mg eK.ds 3 (fun _=>rfl) l i V j a2).trans OQ)
 obtain ⟨aw,aH,bE⟩:=g 0 (.int T) N7 (by simp [eK.ds]);obtain ⟨aF,az,aT⟩:=g 1 (.int O) N7 (by simp [eK.ds]);obtain ⟨aM,aK,aU⟩:=g 2 (.int aL) N7 (by simp [eK.ds]);exact R4
structure NB (w:World) (b o:Nat) (x:gd):Prop where
 lt:b<w.heap.size
 c0:w.cell? (dj b o)=some (di x.at_)
 c1:w.cell? ⟨b,o+1,none⟩=some (di x.kind)
 c2:w.cell? ⟨b,o+2,none⟩=some (di x.m)
 w0:(Lit.int .i64 x.at_).wf=true
 dk:(Lit.int .i64 x.kind).wf=true
 w2:(Lit.int .i64 x.m).wf=true
theorem dx.gf {a:OA} {l:List gd} (h:dx w A a l.length (o8 l)) (i:Nat) (V:i<l.length):∃ p C,a=some (dj p C)/\NB w p (C+i*3) l[i]:=by
 obtain ⟨p,C,a7,I,W⟩:=h.cell N7;generalize S:l[i]=x;obtain ⟨T,O,aL⟩:=x
 have g:∀ j d,j<3->(gd.mk T O aL).ds[j]? = some d->∃ v,w.cell? ⟨p,C+i*3+j,none⟩=some v/\eO w A d v:=fun j d a2 hd=>by
  rw [ie];exact W (i*3+j) d ((mg gd.ds 3 (fun _=>rfl) l i V j a2).trans OQ)
 obtain ⟨aw,aH,bE⟩:=g 0 (.int T) N7 (by simp [gd.ds]);obtain ⟨aF,az,aT⟩:=g 1 (.int O) N7 (by simp [gd.ds]);obtain ⟨aM,aK,aU⟩:=g 2 (.int aL) N7 (by simp [gd.ds]);exact R4
theorem dx.num {a:OA} {l:List Int} (h:dx w A a l.length (fs l)) (i:Nat) (V:i<l.length):∃ p C,a=some (dj p C)/\p<w.heap.size/\w.cell? ⟨p,C+i,none⟩=some (di l[i])/\(Lit.int .i64 l[i]).wf=true:=by
 obtain ⟨p,C,a7,I,W⟩:=h.cell N7;obtain ⟨aw,aH,bE⟩:=W i (.int l[i]) (by simp [fs,V]);obtain ⟨rfl,w0⟩:=gR bE;exact ⟨p,C,a7,I,aH,w0⟩
def gA (a b m e:Int):Bool:=decide (0<=a)&&(decide (a<=b)&&(decide (0<=m)&&decide (m<=e)))
def jy (o:dP) (x:Int):Int:=match o.code[x.toNat]? with | some i=>i.a | none=>0
def p6 (o:dP) (f:gd):Bool:=
 if f.kind=1 then gA (jy o f.at_) o.code.length f.m 0
 else if f.kind=2\/f.kind=3 then gA (jy o f.at_) 2048 f.m o.uses.length
 else false
def jQ (n:Nat) (q:Nat->Bool):Bool:=(List.range n).all q
theorem iN:jQ n q=true↔∀ i,i<n->q i=true:=by simp [jQ]
theorem p7 {i:Nat} (h:i<n) (b3:q i=false):jQ n q=false:=by
 cases e:jQ n q with
 | false=>rfl
 | true=>rw [iN.1 e i h] at b3;cases b3
theorem q3 {j:Nat} (h:∀ k,k<j->q k=true) (b3:q j=true):∀ k,k<j+1->q k=true:=fun k N=>by
 rcases gZ k j with F | F
 . exact h k F
 . obtain rfl:k=j:=by omega
   exact b3
theorem Ea (a b:ByteArray):(a.toList == b.toList)=decide (a=b):=by
 exact R2
def opB (i:eK):Bool:=decide (1<=i.op/\i.op<=22)
def q4 (o:dP) (j:Nat):Bool:=match o.code[j]? with | some i=>opB i | none=>true
def qa (o:dP) (j:Nat):Bool:=match o.entries[j]? with | some x=>jg o x | none=>true
def sy (o:dP):Bool:=jg o o.main&&decide (0<=o.data/\o.data<=512)
def jh (o:dP):Bool:=jQ o.code.length (q4 o)&&(jQ o.entries.length (qa o)&&sy o)
def nZ (o:dP) (i:Nat):Bool:=match o.uses[i]? with | some x=>Lx.zck x.data.toList&&(!decide (x=o.name) && !Go.Lib.containsS (o.uses.take i) x) | none=>true
def lW (o:dP):Bool:=Lx.zck o.name.data.toList&&jQ o.uses.length (nZ o)
def m8 (o:dP):Nat->Int
 | 0=>-1
 | j+1=>match o.fixes[j]? with | some f=>f.at_ | none=>-1
def n0 (o:dP) (j:Nat):Bool:=match o.fixes[j]? with | some f=>decide (m8 o j<f.at_)&&(jg o f.at_&&p6 o f) | none=>true
def na (o:dP):Bool:=jQ o.fixes.length (n0 o)
def fD (o:dP):Int:=if kv o=true then 2 else if (lW o&&(jh o&&na o))=true then 0 else 1
end Go.Proofs.YtndkhgakfodldaaGreatDoor

namespace Go.Proofs.YtndkhgakfodldaaGreatDoor
variable {B:List Nat} {c j:Ck} {l:List dN} {u:dN}
def ng (B:List Nat) (s:dE):Prop:=(∀ p ∈ B,p<=s.code.length)/\∀ f ∈ s.fixes,f.kind=1->∃ (k:Nat) (i:eK),s.code[k]? = some i/\f.at_=(k:Int)/\i.a<s.code.length/\∀ p ∈ B,(k<p->i.a<p)/\(p<=k->(p:Int)<=i.a)
theorem ng.mem {B':List Nat} {s:dE} (h:ng B s) (aF:∀ p ∈ B',p ∈ B):ng B' s:=
 ⟨fun p I=>h.1 p (aF p I),fun f Y N=>by
  obtain ⟨k,i,F,J,U,aa⟩:=h.2 f Y N
  exact ⟨k,i,F,J,U,fun p I=>aa p (aF p I)⟩⟩
theorem ng.more {s:dE} (h:ng B s):ng (s.code.length :: B) s:=by
 refine ⟨fun p I=>?_,fun f Y N=>?_⟩
 . rcases kk.1 I with rfl | I
   . exact dA _
   . exact h.1 p I
 . obtain ⟨k,i,F,J,U,aa⟩:=h.2 f Y N
   refine ⟨k,i,F,J,U,fun p I=>?_⟩
   rcases kk.1 I with rfl | I
   . have:=lr F
     exact ⟨fun _=>U,fun h=>N7⟩
   . exact aa p I
theorem ng.body {us:Int} {s t:dE} (h:ng B s) (a7:fy us (fun _=>False) s t):ng B (eq 15 0 0 (eq 1 0 0 t)):=by
 obtain ⟨e,ar,_,Y⟩:=a7.fx;have X:=a7.le
 have b:(eq 15 0 0 (eq 1 0 0 t)).code.length=t.code.length+2:=by rw [eQ,eQ]
 have j:∀ k,k<t.code.length->(eq 15 0 0 (eq 1 0 0 t)).code[k]? = t.code[k]?:=fun k N=>by
  simp only [eq];rw [kh Of,kh N]
 refine ⟨fun p I=>by have:=h.1 p I;rw [b];omega,fun f a N=>?_⟩
 have d:f ∈ s.fixes++e:=by rw [← ar];exact a
 rw [b]
 rcases jF.1 d with F | F
 . obtain ⟨k,i,F,J,U,aa⟩:=h.2 f F N
   have c:=lr F;exact ⟨k,i,(j k N7).trans ((a7.pre k c).trans F),J,N7,aa⟩
 . obtain ⟨k,i,F,J,U,aa⟩:=Y f F
   refine ⟨k,i,(j k (lr F)).trans F,J,?_,fun p I=>?_⟩
   all_goals rcases aa with ⟨_,_,aB | aB⟩ | ⟨aB,_⟩
   . exact aB.elim
   . omega
   . omega
   . exact aB.elim
   . have:=h.1 p I
     exact ⟨fun _=>N7,fun _=>N7⟩
   . omega
theorem Eb (h:gb u=true) (d:Int) (X:d<=64):v2 (fP u gL gz d):=by
 have bj:=qW h;have hd:=oU h;refine ⟨fun m g n Z h=>?_,fun m g k h=>?_,X⟩
 . unfold numB at h
   split at h
   . rename_i e
     have h:0<=g/\g+n<=u.data:=of_decide_eq_true h;subst e;exact ⟨N7,N7,Qc⟩
   . rw [dO] at h
     obtain ⟨F,J⟩:=h;have F:1<=m/\m<=u.uses.length:=of_decide_eq_true F;have J:gL m g n=true:=J;simp only [gL,xy,j6,decide_eq_true_eq] at J;exact ⟨N7,N7,Qc⟩
 . unfold f6 at h
   split at h
   . rename_i e
     have h:ij u.parts g k=true:=h;unfold ij at h;rw [dO,decide_eq_true_eq] at h;obtain ⟨F,J⟩:=h
     cases b3:u.parts[g.toNat]? with
     | none=>rw [b3] at J;cases J
     | some D=>
       have:=lr b3;subst e;exact ⟨N7,N7,Qc⟩
   . rw [dO] at h
     obtain ⟨F,J⟩:=h;have F:1<=m/\m<=u.uses.length:=of_decide_eq_true F;have J:gz m g k=true:=J;simp only [gz,dO,decide_eq_true_eq] at J;exact ⟨N7,N7,Qc⟩
def rc (l:List e5) (j:Nat):List Nat:=(List.range j).map (fun i=>(f7 (l.take i)).code.length)
theorem Ec (h:hf u gL gz=true):∀ j,j<=u.parts.length->fy u.uses.length (fun _=>False) kR (f7 (u.parts.take j))/\ng (rc u.parts j) (f7 (u.parts.take j))
 | 0,_=>⟨fy.refl _,fun p I=>by simp [rc] at I,fun f Y=>by cases Y⟩
 | j + 1,a2=>by
   obtain ⟨F,J⟩:=Ec h j N7;obtain ⟨aA,_,al⟩:=kS h
   have bG:iG u.parts[j]=true:=by
    unfold gb at al;simp only [dO,e1] at al;exact al.2.1 _ (eb N7)
   have D:u.parts[j].params+u.parts[j].locals<=64:=by
    have:=bG;exact R3
   obtain ⟨t,a7,_,I⟩:=D4 (Eb al _ D) u.parts[j] (aA _ (eb N7)) bG (f7 (u.parts.take j));rw [yQ _ _ N7,I];refine ⟨((F.then a7).put 1 0 0 N9).put 15 0 0 N9,(J.more.body a7).mem (fun p I=>?_)⟩;unfold rc at I;rw [xv,j2,jF] at I
   rcases I with I | I
   . exact fh _ I
   . simp only [md,qF,l8] at I
     subst I;exact fI ..
theorem Ed (h:hf u gL gz=true):fy u.uses.length (fun _=>False) kR (e9 u)/\ng ((f7 u.parts).code.length :: rc u.parts u.parts.length) (e9 u)/\(f7 u.parts).code.length<(e9 u).code.length/\∀ p ∈ rc u.parts u.parts.length,p<=(f7 u.parts).code.length:=by
 obtain ⟨F,J⟩:=Ec h _ (dA _);rw [gu] at F J;obtain ⟨_,a1,al⟩:=kS h;obtain ⟨t,a7,X,I⟩:=D4 (Eb al 0 N9) ⟨0,0,u.main⟩ a1 rfl (f7 u.parts);unfold e9;rw [I];refine ⟨((F.then a7).put 1 0 0 N9).put 15 0 0 N9,J.more.body a7,?_,J.1⟩;rw [eQ,eQ];omega
theorem Ee (l:List e5):pZ l=(rc l l.length).map (fun n:Nat=>(n:Int)):=by
 unfold pZ rc;rw [List.map_map]
 rfl
theorem NC {m:ec} (h:iY m=0):m.err=0/\Fx.zhf (Fx.lists m.uses)=false:=by
 unfold iY at h
 split at h
 . contradiction
 . rename_i ar
   refine ⟨by simpa using ar,?_⟩
   cases hd:Fx.zhf (Fx.lists m.uses) with
   | false=>rfl
   | true=>rw [hd] at h;simp at h
theorem ND (h:gb u=true) (W:Go.Lib.containsS u.uses u.name=false):lW (eg u)=true:=by
 unfold gb at h;rw [dO] at h;obtain ⟨ar,hd⟩:=NC (of_decide_eq_true h.1)
 have Y:(⟨u.name,u.uses,[],[],[]⟩:ec).form=true:=by
  unfold ec.err at ar
  split at ar
  . split at ar
    . cases ar
    . split at ar
      . assumption
      . cases ar
  . cases ar
 unfold ec.form at Y;simp only [dO,e1,nameOk] at Y;unfold lW;rw [dO];refine ⟨Y.1.2,iN.2 (fun i V=>?_)⟩;have d:i<u.uses.length:=V;unfold nZ;show (match u.uses[i]? with | some x=>Lx.zck x.data.toList&&(!decide (x=u.name) && !Go.Lib.containsS (u.uses.take i) x) | none=>true)=true;rw [ew d];simp only [dO,xm,decide_eq_false_iff_not];refine ⟨(Y.2.1 _ (eb d)).2,fun e=>?_,?_⟩
 . have:Go.Lib.containsS u.uses u.name=true:=(Go.Lib.containsS_iff _ _).2 (e ▸ eb d)
   rw [W] at this;cases this
 . cases b3:Go.Lib.containsS (u.uses.take i) u.uses[i] with
   | false=>rfl
   | true=>
     have a1:=(Go.Lib.containsS_iff _ _).1 b3;obtain ⟨j,a2,e⟩:=kI a1;rw [sZ] at e
     have a:j<i:=by rw [jE] at a2;omega
     have:=C9 _ hd j i (by simp [Fx.lists];omega) (by simp [Fx.lists];omega) (by simp [Fx.lists,e]);omega
theorem NE (h:hf u gL gz=true) (W:Go.Lib.containsS u.uses u.name=false) (Y:fN (e9 u)=false):fD (eg u)=0:=by
 obtain ⟨a7,_,X,a8⟩:=Ed h;obtain ⟨_,_,al⟩:=kS h;have bj:=qW al;have U:=tN al;have hd:=oU al
 have c4:(e9 u).code.length<=2048:=by
  unfold fN at Y;have:=of_decide_eq_false Y;omega
 have aY:(eg u).entries.length=u.parts.length:=nW ..
 have a1:kv (eg u)=false:=by
  unfold kv;rw [aY];simp only [hG,decide_eq_false_iff_not];refine ⟨?_,?_,?_,?_⟩
  . show ¬ 3<u.uses.length;omega
  . omega
  . show ¬ (e9 u).code.length<1;omega
  . show ¬ 2048<(e9 u).code.length;omega
 unfold fD;rw [a1,if_neg N9,if_pos];rw [dO,dO];refine ⟨ND al W,?_,?_⟩
 . unfold jh
   rw [dO,dO,iN,iN];refine ⟨fun j a2=>?_,fun j a2=>?_,?_⟩
   . have a:j<(e9 u).code.length:=a2
     unfold q4;show (match (e9 u).code[j]? with | some i=>opB i | none=>true)=true;rw [ew a];have:=(a7.ins j _ (dY _) (ew a)).1;exact decide_eq_true this
   . unfold qa
     rw [ew a2];have b:(eg u).entries[j] ∈ pZ u.parts:=eb a2;rw [Ee,ig] at b;obtain ⟨p,I,e⟩:=b;show jg (eg u) (eg u).entries[j]=true;rw [← e];have:=a8 p I;exact decide_eq_true ⟨N7,by show (p:Int)<((e9 u).code.length:Int);omega⟩
   . unfold sy
     rw [dO];exact ⟨decide_eq_true ⟨by show (0:Int)<=((f7 u.parts).code.length:Int);omega,by show ((f7 u.parts).code.length:Int)<((e9 u).code.length:Int);omega⟩,decide_eq_true hd⟩
 . unfold na
   rw [iN];intro j a2;obtain ⟨e,ar,aA,Q⟩:=a7.fx
   have c:(e9 u).fixes=e:=by rw [ar];rfl
   subst c;have a:j<(e9 u).fixes.length:=a2;unfold n0;show (match (e9 u).fixes[j]? with | some f=>decide (m8 (eg u) j<f.at_)&&(jg (eg u) f.at_&&p6 (eg u) f) | none=>true)=true;rw [ew a];simp only [dO];obtain ⟨k,i,V,N,_,S⟩:=Q _ (eb a);have m:=lr V;refine ⟨decide_eq_true ?_,decide_eq_true ⟨N7,by show _<((e9 u).code.length:Int);omega⟩,?_⟩
   . cases j with
     | zero=>show (-1:Int)<_;omega
     | succ j=>
       show (match (e9 u).fixes[j]? with | some f=>f.at_ | none=>-1)<_;rw [ew N7];exact List.pairwise_iff_getElem.1 aA j (j+1) N7 a N7
   . have aO:jy (eg u) (e9 u).fixes[j].at_=i.a:=by
      unfold jy;rw [N,ir];show (match (e9 u).code[k]? with | some i=>i.a | none=>0)=_;rw [V]
     unfold p6;rw [aO]
     rcases S with ⟨F,J,aa | aa⟩ | ⟨F,_,aa,aB⟩
     . exact aa.elim
     . rw [if_pos F]
       have ab:(kR.code.length:Int)=0:=rfl;rw [ab] at aa;unfold gA;simp only [dO,decide_eq_true_eq];exact ⟨aa.1,aa.2,N7,N7⟩
     . rw [if_neg N7,if_pos F]
       unfold gA;simp only [dO,decide_eq_true_eq];exact ⟨aa.1,aa.2,aB.1,aB.2⟩
theorem NF (Z:∀ m g n,numB c m g n=true->numB j m g n=true) (aA:∀ m g k,f6 c m g k=true->f6 j m g k=true) (X:j.locals=c.locals) (x:dB) (h:eC c x=true):eC j x=true:=by
 unfold eC kL kq at h ⊢;rw [X];split
 . exact Sp
 . rename_i e;rw [if_neg e] at h
   split
   . exact Sp
   . rename_i e;rw [if_neg e] at h
     split
     . rename_i e;rw [if_pos e] at h;simp only [dO] at h ⊢;exact ⟨h.1,aA _ _ _ h.2⟩
     . rename_i e;rw [if_neg e] at h;exact h
theorem Ef (h:∀ x,eC c x=true->eC j x=true):∀ (k:Nat) (l:List dB),fO c k l=true->fO j k l=true
 | 0,l,X=>X
 | k+1,l,X=>by
   unfold fO at X ⊢;rw [e1] at X ⊢;intro x S;have:=X x S;rw [dO] at this ⊢;exact ⟨h x this.1,Ef h k _ this.2⟩
theorem zh (Z:∀ m g n,numB c m g n=true->numB j m g n=true) (aA:∀ m g k,f6 c m g k=true->f6 j m g k=true) (X:j.locals=c.locals):∀ (k:Nat) (l:List du),fb c k l=true->fb j k l=true
 | 0,l,h=>h
 | k + 1,l,h=>by
   have ay:=zh Z aA X k;have aw:=Ef (NF Z aA X);unfold fb at h ⊢;simp only [dO,e1] at h ⊢;refine ⟨h.1,fun a a7=>?_⟩;obtain ⟨F,J,U⟩:=h.2 a a7;refine ⟨?_,aw _ _ J,?_⟩
   . unfold eF kL kq at F ⊢
     rw [X];split
     . rename_i e;rw [if_pos e] at F;simp only [dO] at F ⊢
       refine ⟨F.1,F.2.1,?_⟩;split
       . rename_i e;have:=F.2.2;rw [if_pos e] at this;exact this
       . rename_i e;have:=F.2.2;rw [if_neg e] at this;exact Z _ _ _ this
     . rename_i e;rw [if_neg e] at F
       split
       . rename_i e;rw [if_pos e] at F;simp only [dO] at F ⊢;exact ⟨F.1,F.2.1,Z _ _ _ F.2.2⟩
       . rename_i e;rw [if_neg e] at F
         split
         . rename_i e;rw [if_pos e] at F;simp only [dO] at F ⊢;exact ⟨F.1,aA _ _ _ F.2⟩
         . rename_i e;rw [if_neg e] at F;exact F
   . split
     . rename_i e;rw [if_pos e] at U;rw [dO] at U ⊢;exact ⟨ay _ U.1,ay _ U.2⟩
     . rename_i e;rw [if_neg e] at U
       split
       . rename_i e;rw [if_pos e] at U;rw [dO] at U ⊢;exact ⟨ay _ U.1,U.2⟩
       . rename_i e;rw [if_neg e] at U;exact U
theorem NG (h:hN l=0):li l=true/\nO l/\oV l=true/\fG l<=512/\1<=l.length/\l.length<=4:=by
 unfold hN at h
 split at h
 . cases h
 . rename_i ab
   split at h
   . cases h
   . rename_i F
     split at h
     . cases h
     . rename_i J
       split at h
       . rename_i U
         rw [dO] at U;exact ⟨P9,yo Pg,U.1,of_decide_eq_true U.2,N7,N7⟩
       . cases h
theorem NH (h:hN l=0) (aL:u ∈ l):Go.Lib.containsS u.uses u.name=false/\hf u gL gz=true:=by
 obtain ⟨aO,aw,b7,_,_,_⟩:=NG h;have aS:∀ v ∈ l,mu l v=true:=e1.1 b7;refine ⟨?_,?_⟩
 . cases b3:Go.Lib.containsS u.uses u.name with
   | false=>rfl
   | true=>
     obtain ⟨j,a2,rfl⟩:=kI aL;obtain ⟨i,V,hij,_,e⟩:=qM aO aw a2 ((Go.Lib.containsS_iff _ _).1 b3);rw [Da aw j a2] at e;have:=aw i j V a2 (by rw [e]);omega
 . have F:=aS u aL
   unfold mu at F
   have aF:∀ v ∈ g2 l u,v=sm\/v ∈ l:=fun v af=>by
    unfold g2 at af;obtain ⟨s,_,rfl⟩:=ig.1 af;unfold nN
    cases b3:l.find? (fun u=>decide (u.name=s)) with
    | none=>exact Or.inl rfl
    | some x=>exact Or.inr (List.mem_of_find?_eq_some b3)
   have hd:∀ v ∈ g2 l u,v.data<=512/\v.parts.length<=6/\∀ D ∈ v.parts,D.params<=3:=fun v af=>by
    rcases aF v af with rfl | af
    . exact ⟨N9,N9,fun D aA=>by cases aA⟩
    . have J:=aS v af
      have al:=(kS J).2.2;refine ⟨(oU al).2,qW al,fun D aA=>?_⟩;unfold gb at al;simp only [dO,e1] at al;have:=al.2.1 D aA;exact R3
   have a:∀ d m g n,numB (fP u (lh (g2 l u)) (jK (g2 l u)) d) m g n=true->numB (fP u gL gz d) m g n=true:=fun d m g n h=>by
    unfold numB at h ⊢;split
    . rename_i e;rw [if_pos e] at h;exact h
    . rename_i e;rw [if_neg e] at h
      rw [dO] at h ⊢;refine ⟨h.1,?_⟩;have J:=h.2;simp only [fP,lh] at J ⊢
      cases b3:(g2 l u)[(m - 1).toNat]? with
      | none=>rw [b3] at J;cases J
      | some v=>
        rw [b3] at J;have:=(hd v (qz b3)).1;simp only [j6,decide_eq_true_eq] at J;unfold gL j6;rw [decide_eq_true (p:=0<=g/\g+n<=512) N7,xH]
   have b:∀ d m g k,f6 (fP u (lh (g2 l u)) (jK (g2 l u)) d) m g k=true->f6 (fP u gL gz d) m g k=true:=fun d m g k h=>by
    unfold f6 at h ⊢;split
    . rename_i e;rw [if_pos e] at h;exact h
    . rename_i e;rw [if_neg e] at h
      rw [dO] at h ⊢;refine ⟨h.1,?_⟩;have J:=h.2;simp only [fP,jK] at J ⊢
      cases b3:(g2 l u)[(m - 1).toNat]? with
      | none=>rw [b3] at J;cases J
      | some v=>
        rw [b3] at J;obtain ⟨_,bj,aA⟩:=hd v (qz b3);simp only [ij,dO,decide_eq_true_eq] at J;obtain ⟨U,aa⟩:=J
        cases b2:v.parts[g.toNat]? with
        | none=>rw [b2] at aa;cases aa
        | some D=>
          rw [b2] at aa;have aB:=of_decide_eq_true aa;have:=aA D (qz b2);have:=lr b2;unfold gz;rw [dO,decide_eq_true_eq,decide_eq_true_eq];omega
   have al:=F;unfold hf at F ⊢;simp only [dO,e1] at F ⊢;exact ⟨F.1,fun D aA=>zh (a _) (b _) rfl 6 _ (F.2.1 D aA),zh (a _) (b _) rfl 6 _ F.2.2⟩
end Go.Proofs.YtndkhgakfodldaaGreatDoor

namespace Go.Proofs.YtndkhgakfodldaaGreatDoor
open Go.RowKit Go.Maps Go.WideMaps
theorem Eg (o:dP):jh o=(jQ o.code.length (q4 o)&&(jQ o.entries.length (qa o)&&sy o)):=rfl
theorem NI (o:dP) (a4:OA) (ad:Nat) (a5:OA) (y3:Nat) (ax:OA) (y4:Nat) (aG:OA) (y5:Nat) (w:World) (b6:i1 w o a4 a5 ax aG) :
 dw 83 #[.agg #[.string o.name,.slice a4 o.uses.length ad,di o.data,.slice a5 o.code.length y3,.slice ax o.fixes.length y4,.slice aG o.entries.length y5,di o.main]] w fun e G=>e = .returned (.bool (jh o))/\dm w G:=by
 have T:=b6.code.bound;have br:=b6.entries.bound;have P:=hid b6;have A:=hid (fun (x:Int) (M:World)=>D9 o o.name a4 o.uses.length ad o.data a5 y3 ax o.fixes.length y4 aG o.entries.length y5 o.main x M T);clear b6;go_enter func83,ntmps83;go_wp2_with fail
 go_loopw [10] (fun i wr=>∃ j:Nat,j<=o.code.length/\i=di j/\(∀ k,k<j->q4 o k=true)/\dm w wr/\wr.heap[w.heap.size]? = some (kU o a4 ad a5 y3 ax y4 aG y5)) (fun i _=>o.code.length - (intOf i).toNat)
 case atStart=>exact ⟨0,dY _,rfl,fun k N=>absurd N (pz k),dn _ _,dX w (kU o a4 ad a5 y3 ax y4 aG y5)⟩
 case round=>
  obtain ⟨j,a2,rfl,aS,I,aF⟩:=hrel;obtain ⟨aH,az,aK,aW,bg,q5,q6,_⟩:=fi aF;have b5:=lt_of_heap aF;have ag:=hid I;have aZ:=hid aF;have b2:=hid aS;clear aS aF I
  by_cases ac:j<o.code.length
  . obtain ⟨p,C,rfl,S⟩:=(P.later ag).code.gi j ac
    have aP:Hid (q4 o j=opB o.code[j]):=by show _=_;unfold q4;rw [ew ac]
    have aD:=hid (fun (h:opB o.code[j]=false)=>(by rw [Eg,p7 ac (aP.out.trans h)];rfl:jh o=false));have aM:=hid (fun (h:opB o.code[j]=true)=>q3 b2 (aP.trans h));obtain ⟨bb,bF,bo,ei,_,_,_⟩:=S;generalize o.code[j]=D at *
    by_cases b8:D.op<1
    . have v:=hid (aD (by unfold opB;exact decide_eq_false N7))
      exact QW
    by_cases b7:22<D.op
    . have v:=hid (aD (by unfold opB;exact decide_eq_false N7))
      have l:1<=D.op:=N7
      clear b8;exact QW
    have ar:=hid (aM (by unfold opB;exact decide_eq_true N7))
    have l:1<=D.op:=N7
    have t:D.op<=22:=N7
    clear b8 b7;exact RS
  . obtain rfl:j=o.code.length:=by omega
    have ao:Hid (jh o=(jQ o.entries.length (qa o)&&sy o)):=by show _=_;rw [Eg,iN.2 b2.out];rfl
    go_wp2_with fail
    go_loopw [26] (fun i wr=>∃ j:Nat,j<=o.entries.length/\i=di j/\(∀ k,k<j->qa o k=true)/\dm w wr/\wr.heap[w.heap.size]? = some (kU o a4 ad a5 y3 ax y4 aG y5)) (fun i _=>o.entries.length - (intOf i).toNat)
    case atStart=>exact ⟨0,dY _,rfl,fun k N=>absurd N (pz k),ag,aZ⟩
    case round=>
     clear aH az aK aW bg q5 q6 b5;obtain ⟨j,a2,rfl,aS,I,aF⟩:=hrel;obtain ⟨aH,az,aK,aW,bg,q5,q6,_⟩:=fi aF;have b5:=lt_of_heap aF;have ag:=hid I;have aZ:=hid aF;have b2:=hid aS;clear aS aF I
     by_cases ac:j<o.entries.length
     . obtain ⟨p,C,rfl,bb,bF,_⟩:=(P.later ag).entries.num j ac
       have aP:Hid (qa o j=jg o o.entries[j]):=by show _=_;unfold qa;rw [ew ac]
       have aD:=hid (fun (h:jg o o.entries[j]=false)=>(by rw [ao.out,p7 ac (aP.out.trans h)];rfl:jh o=false));have aM:=hid (fun (h:jg o o.entries[j]=true)=>q3 b2 (aP.trans h));generalize o.entries[j]=D at *;go_wp2_with fail;refine (A D _).mono ?_;rintro e dk ⟨rfl,aq⟩;have B:=hid (dp ag aq);have bl:=hid ((aq.block _ b5).trans aZ);clear aH az aK aW bg q5 q6 b5 aq
       cases aA:jg o D with
       | false=>
         have v:=hid (aD aA);go_wp2_with fail;go_ret;exact ⟨ret_bool Oo,B⟩
       | true=>
         have ar:=hid (aM aA);exact RQ
     . obtain rfl:j=o.entries.length:=by omega
       have b0:Hid (jh o=(jg o o.main&&decide (0<=o.data/\o.data<=512))):=by show _=_;rw [ao.out,iN.2 b2.out];rfl
       go_wp2_with fail;refine (A o.main _).mono ?_;rintro e dk ⟨rfl,aq⟩;have B:=hid (dp ag aq);have bl:=hid ((aq.block _ b5).trans aZ);clear aH az aK aW bg q5 q6 b5 aq;obtain ⟨aH,az,aK,aW,bg,q5,q6,_⟩:=fi bl;have b5:=lt_of_heap bl
       cases aA:jg o o.main with
       | false=>
         have z:Hid (jh o=false):=by show _=_;rw [b0.out,aA];rfl
         exact Qu
       | true=>
         by_cases b8:0<=o.data
         . have z:Hid (jh o=decide (o.data<=512)):=by show _=_;rw [b0.out,aA,s4];exact decide_eq_decide.2 ⟨fun h=>h.2,fun h=>⟨b8,h⟩⟩
           exact Qu
         . have z:Hid (jh o=false):=by show _=_;rw [b0.out,aA,s4];exact decide_eq_false (fun h=>b8 h.1)
           have l:o.data<0:=N7
           clear b8;exact Qu
theorem Eh (o:dP):lW o=(Lx.zck o.name.data.toList&&jQ o.uses.length (nZ o)):=rfl
theorem eu.take {w:World} {lo:Nat->Prop}:∀ {l:List D} {s:List Value},eu w lo l s->∀ j,eu w lo (l.take j) (s.take j)
 | [],s,h,j=>by unfold eu at h;subst h;simp only [List.take_nil];exact eu.nil
 | d :: Y,s,h,0=>by simp only [xB];exact eu.nil
 | d :: Y,s,h,j+1=>by
   unfold eu at h;obtain ⟨v,r,rfl,F,J⟩:=h;exact eu.cons F (eu.take J j)
theorem NJ {w:World} {A:Nat->Prop} {a:OA} {l:List ByteArray} (h:dx w A a l.length (eH l)) (j:Nat):dx w A a (l.take j).length (eH (l.take j)):=by
 obtain ⟨F,J,U⟩:=h
 have e:eH (l.take j)=(eH l).take j:=by simp [eH,List.map_take]
 have Z:(eH l).length=l.length:=by simp [eH]
 refine ⟨by rw [e,jE,jE,Z];exact dA _,by rw [e,jE];omega,?_⟩
 rcases U with aa | ⟨p,C,s,a7,X,I,W,S⟩
 . exact Or.inl (by rw [jE];omega)
 . exact Or.inr ⟨p,C,s.take j,a7,X,I,fun k u N=>W k u (by rw [xl] at N;split at N;exact N;cases N),by rw [e];exact S.take j⟩
theorem NK (o:dP) (a4:OA) (ad:Nat) (a5:OA) (y3:Nat) (ax:OA) (y4:Nat) (aG:OA) (y5:Nat) (w:World) (b6:i1 w o a4 a5 ax aG) (U:o.uses.length<=3) (g:o.uses.length<=ad) :
 dw 82 #[.agg #[.string o.name,.slice a4 o.uses.length ad,di o.data,.slice a5 o.code.length y3,.slice ax o.fixes.length y4,.slice aG o.entries.length y5,di o.main]] w fun e G=>e = .returned (.bool (lW o))/\dm w G:=by
 have P:=hid b6;have aV:=hid (D8 o.name (w.alloc (kU o a4 ad a5 y3 ax y4 aG y5)) b6.wn);clear b6;go_enter func82,ntmps82;go_wp2_with fail;refine aV.mono ?_;rintro e dk ⟨rfl,aq⟩;have B:=hid (dp (dn w _) aq);have bl:=hid ((aq.block _ Ob).trans (dX w (kU o a4 ad a5 y3 ax y4 aG y5)));clear aq
 cases Z:Lx.zck o.name.data.toList with
 | false=>
   have z:Hid (lW o=false):=by show _=_;rw [Eh,Z];rfl
   exact Qu
 | true=>
 have ao:Hid (lW o=jQ o.uses.length (nZ o)):=by show _=_;rw [Eh,Z];rfl
 clear Z;obtain ⟨aH,az,aK,aW,bg,q5,q6,_⟩:=fi bl;have b5:=lt_of_heap bl;go_wp2_with fail
 go_loopw [12] (fun i wr=>∃ j:Nat,j<=o.uses.length/\i=di j/\(∀ k,k<j->nZ o k=true)/\dm w wr/\wr.heap[w.heap.size]? = some (kU o a4 ad a5 y3 ax y4 aG y5)) (fun i _=>o.uses.length - (intOf i).toNat)
 case atStart=>exact ⟨0,dY _,rfl,fun k N=>absurd N (pz k),B,bl⟩
 case round=>
  clear aH az aK aW bg q5 q6 b5;obtain ⟨j,a2,rfl,aS,I,aF⟩:=hrel;obtain ⟨aH,az,aK,aW,bg,q5,q6,_⟩:=fi aF;have b5:=lt_of_heap aF;have ag:=hid I;have aZ:=hid aF;have b2:=hid aS;clear aS aF I
  by_cases ac:j<o.uses.length
  . obtain ⟨p,C,rfl,bb,bF,aj⟩:=(P.later ag).uses.str j ac
    have aP:Hid (nZ o j=(Lx.zck o.uses[j].data.toList&&(!decide (o.uses[j]=o.name) && !Go.Lib.containsS (o.uses.take j) o.uses[j]))):=by show _=_;unfold nZ;rw [ew ac]
    have aD:=hid (fun (h:nZ o j=false)=>(by rw [ao.out,p7 ac h]:lW o=false));have aM:=hid (fun (h:nZ o j=true)=>q3 b2 (h));have bA:=hid (fun (M:World) (ai:dm wr M) (y:Nat)=>(by have h:=D6 (o.uses.take j) o.uses[j] (some (dj p C)) y M (NJ ((P.later ag).later ai).uses j);rw [jE,uW a2] at h;exact h:dw 76 #[.slice (some (dj p C)) j y,.string o.uses[j]] M fun e G=>e = .returned (.bool (Go.Lib.containsS (o.uses.take j) o.uses[j]))/\G=M))
    have b:j<=ad:=N7
    generalize o.uses[j]=x at *;go_wp2_with fail;refine (D8 x _ aj).mono ?_;rintro e dk ⟨rfl,aq⟩;have B:=hid (dp ag aq);have bl:=hid ((aq.block _ b5).trans aZ);have bh:=hid (bA dk aq);clear aH az aK aW bg q5 q6 b5 aq bF bb;obtain ⟨aH,az,aK,aW,bg,q5,q6,_⟩:=fi bl;have b5:=lt_of_heap bl
    cases Z:Lx.zck x.data.toList with
    | false=>
      have z:=hid (aD (by rw [aP.out,Z];rfl));exact Qu
    | true=>
      by_cases S:x=o.name
      . have z:=hid (aD (by rw [aP.out,Z,decide_eq_true S];rfl))
        have D:(x.toList == o.name.toList)=true:=(Ea _ _).trans (decide_eq_true S);clear S;exact Qu
      . have D:(x.toList == o.name.toList)=false:=(Ea _ _).trans (decide_eq_false S)
        have a:Hid (nZ o j = !Go.Lib.containsS (o.uses.take j) x):=by show _=_;rw [aP.out,Z,decide_eq_false S];simp
        clear S;go_wp2_with fail;refine (bh _).mono ?_;rintro e w2 ⟨rfl,rfl⟩
        cases W:Go.Lib.containsS (o.uses.take j) x with
        | true=>
          have z:=hid (aD (by rw [a.out,W];rfl));exact Qu
        | false=>
          have ar:=hid (aM (by rw [a.out,W];rfl));exact RQ
  . obtain rfl:j=o.uses.length:=by omega
    have z:Hid (lW o=true):=by show _=_;rw [ao.out,iN.2 b2.out]
    exact Rf
theorem NL (o:dP) (a4:OA) (ad:Nat) (a5:OA) (y3:Nat) (ax:OA) (y4:Nat) (aG:OA) (y5:Nat) (j:Nat) (m:Int) (w:World) (a2:j<o.code.length) (bj:dx w dQ a5 o.code.length (lV o.code)) (aL:o.uses.length<=17592186044416) :
 dw 133 #[.agg #[.string o.name,.slice a4 o.uses.length ad,di o.data,.slice a5 o.code.length y3,.slice ax o.fixes.length y4,.slice aG o.entries.length y5,di o.main],.agg #[di (j:Int),di 1,di m]] w fun e G=>e = .returned (.bool (gA o.code[j].a (o.code.length:Int) m 0))/\dm w G:=by
 have bK:=bj.bound;obtain ⟨p,C,rfl,S⟩:=bj.gi j a2;obtain ⟨bb,_,be,_,_,_,_⟩:=S;generalize o.code[j].a=a at *;clear bj
 by_cases bT:0<=a
 case neg=>
  have z:Hid (gA a (o.code.length:Int) m 0=false):=by show _=_;simp [gA,bT]
  have q:a<0:=N7
  clear bT;exact Qs
 by_cases b8:a<=(o.code.length:Int)
 case neg=>
  have z:Hid (gA a (o.code.length:Int) m 0=false):=by show _=_;simp [gA,b8]
  have ap:(o.code.length:Int)<a:=N7
  clear b8;exact Qs
 by_cases b7:0<=m
 case neg=>
  have z:Hid (gA a (o.code.length:Int) m 0=false):=by show _=_;simp [gA,b7]
  have ai:m<0:=N7
  clear b7;exact Qs
 have z:Hid (gA a (o.code.length:Int) m 0=decide (m<=0)):=Qa
 exact Qs
theorem NM (o:dP) (a4:OA) (ad:Nat) (a5:OA) (y3:Nat) (ax:OA) (y4:Nat) (aG:OA) (y5:Nat) (j:Nat) (m:Int) (w:World) (a2:j<o.code.length) (bj:dx w dQ a5 o.code.length (lV o.code)) (aL:o.uses.length<=17592186044416) :
 dw 133 #[.agg #[.string o.name,.slice a4 o.uses.length ad,di o.data,.slice a5 o.code.length y3,.slice ax o.fixes.length y4,.slice aG o.entries.length y5,di o.main],.agg #[di (j:Int),di 2,di m]] w fun e G=>e = .returned (.bool (gA o.code[j].a 2048 m (o.uses.length:Int)))/\dm w G:=by
 have bK:=bj.bound;obtain ⟨p,C,rfl,S⟩:=bj.gi j a2;obtain ⟨bb,_,be,_,_,_,_⟩:=S;generalize o.code[j].a=a at *;clear bj
 by_cases bT:0<=a
 case neg=>
  have z:Hid (gA a 2048 m (o.uses.length:Int)=false):=by show _=_;simp [gA,bT]
  have q:a<0:=N7
  clear bT;exact Qs
 by_cases b8:a<=2048
 case neg=>
  have z:Hid (gA a 2048 m (o.uses.length:Int)=false):=by show _=_;simp [gA,b8]
  have ap:2048<a:=N7
  clear b8;exact Qs
 by_cases b7:0<=m
 case neg=>
  have z:Hid (gA a 2048 m (o.uses.length:Int)=false):=by show _=_;simp [gA,b7]
  have ai:m<0:=N7
  clear b7;exact Qs
 have z:Hid (gA a 2048 m (o.uses.length:Int)=decide (m<=(o.uses.length:Int))):=Qa
 exact Qs
theorem NN (o:dP) (a4:OA) (ad:Nat) (a5:OA) (y3:Nat) (ax:OA) (y4:Nat) (aG:OA) (y5:Nat) (j:Nat) (m:Int) (w:World) (a2:j<o.code.length) (bj:dx w dQ a5 o.code.length (lV o.code)) (aL:o.uses.length<=17592186044416) :
 dw 133 #[.agg #[.string o.name,.slice a4 o.uses.length ad,di o.data,.slice a5 o.code.length y3,.slice ax o.fixes.length y4,.slice aG o.entries.length y5,di o.main],.agg #[di (j:Int),di 3,di m]] w fun e G=>e = .returned (.bool (gA o.code[j].a 2048 m (o.uses.length:Int)))/\dm w G:=by
 have bK:=bj.bound;obtain ⟨p,C,rfl,S⟩:=bj.gi j a2;obtain ⟨bb,_,be,_,_,_,_⟩:=S;generalize o.code[j].a=a at *;clear bj
 by_cases bT:0<=a
 case neg=>
  have z:Hid (gA a 2048 m (o.uses.length:Int)=false):=by show _=_;simp [gA,bT]
  have q:a<0:=N7
  clear bT;exact Qs
 by_cases b8:a<=2048
 case neg=>
  have z:Hid (gA a 2048 m (o.uses.length:Int)=false):=by show _=_;simp [gA,b8]
  have ap:2048<a:=N7
  clear b8;exact Qs
 by_cases b7:0<=m
 case neg=>
  have z:Hid (gA a 2048 m (o.uses.length:Int)=false):=by show _=_;simp [gA,b7]
  have ai:m<0:=N7
  clear b7;exact Qs
 have z:Hid (gA a 2048 m (o.uses.length:Int)=decide (m<=(o.uses.length:Int))):=Qa
 exact Qs
theorem NO (o:dP) (a4:OA) (ad:Nat) (a5:OA) (y3:Nat) (ax:OA) (y4:Nat) (aG:OA) (y5:Nat) (g p m:Int) (w:World) (F:p≠1) (J:p≠2) (U:p≠3) (aL:o.uses.length<=17592186044416) :
 dw 133 #[.agg #[.string o.name,.slice a4 o.uses.length ad,di o.data,.slice a5 o.code.length y3,.slice ax o.fixes.length y4,.slice aG o.entries.length y5,di o.main],.agg #[di g,di p,di m]] w fun e G=>e = .returned (.bool false)/\dm w G:=by
 go_enter func133,ntmps133;go_wp2_with fail
 go_region
 go_wp2_with fail;go_ret;exact ⟨rfl,Od⟩
theorem NP (o:dP) (a4:OA) (ad:Nat) (a5:OA) (y3:Nat) (ax:OA) (y4:Nat) (aG:OA) (y5:Nat) (f:gd) (w:World) (aA:jg o f.at_=true) (bj:dx w dQ a5 o.code.length (lV o.code)) (aL:o.uses.length<=17592186044416) :
 dw 133 #[.agg #[.string o.name,.slice a4 o.uses.length ad,di o.data,.slice a5 o.code.length y3,.slice ax o.fixes.length y4,.slice aG o.entries.length y5,di o.main],.agg #[di f.at_,di f.kind,di f.m]] w fun e G=>e = .returned (.bool (p6 o f))/\dm w G:=by
 obtain ⟨g,p,m⟩:=f;have b:=of_decide_eq_true aA;simp only at b
 obtain ⟨j,rfl⟩:∃ j:Nat,g=j:=⟨g.toNat,N7⟩
 have a2:j<o.code.length:=N7
 have a7:jy o (j:Int)=o.code[j].a:=by unfold jy;rw [ir,ew a2]
 unfold p6;simp only [a7]
 by_cases aJ:p=1
 . subst aJ;exact NL o a4 ad a5 y3 ax y4 aG y5 j m w a2 bj aL
 by_cases aI:p=2
 . subst aI;exact NM o a4 ad a5 y3 ax y4 aG y5 j m w a2 bj aL
 by_cases bq:p=3
 . subst bq;exact NN o a4 ad a5 y3 ax y4 aG y5 j m w a2 bj aL
 . rw [if_neg aJ,if_neg N7]
   exact NO o a4 ad a5 y3 ax y4 aG y5 j p m w aJ aI bq aL
end Go.Proofs.YtndkhgakfodldaaGreatDoor
