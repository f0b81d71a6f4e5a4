import Derived.Test.YtndkhgakfodldaaGreatDoorUn
import Derived.Deep.RegionHeldLaw
set_option maxRecDepth 100000
set_option maxHeartbeats 6400000
set_option linter.unusedSimpArgs false
set_option linter.unusedVariables false
open Go.Proofs.Tryz
open List renaming length → Ln
namespace Go.Proofs.YtndkhgakfodldaaGreatDoor
open Go.RowKit Go.Maps Go.WideMaps
variable {A:Nat->Prop} {B R I cp a8 cy g k ak au aI p:Nat} {K:List (Nat × Obj)} {P:Program} {T:Exit->Act->World->Prop} {M w r:World} {Y a5 a7 t i f:OA} {d l:List eH} {U N:List eB} {c:Ck} {e:TypeId} {n:Int} {o:Obj} {ops:Array Oper} {q:Nat->Bool} {u:ga} {v:Value} {x y:eH} {ae:List Value}
def mK (v u:Value):Prop:=∀ k,v.ownBlock=some k->u.ownBlock≠some k
theorem mK.symm {u:Value} (h:mK v u):mK u v:=fun k G J=>h k J G
theorem mK.nil (u:Value):mK (eu) u:=fun k h=>by simp [Value.ownBlock] at h
def sS (w:World) (a:OA) (l:List Bool):Prop:=l=[]\/∃ V C,a=some (ep V C)/\V<w.heap.size/\∀ i (h:i<Ln l),w.cell? ⟨V,C+i,none⟩=some (.bool l[i])
theorem sS.later {a:OA} {l:List Bool} (h:sS w a l) (F:et w r):sS r a l:=by
 rcases h with h | ⟨V,C,e,a2,h⟩
 . exact Or.inl h
 . exact Or.inr ⟨V,C,e,gl a2 F.size,fun i X=>(F.cell (p:=⟨V,C+i,none⟩) a2).trans (h i X)⟩
theorem sS.place {a:OA} {l:List Bool} (h:sS w a l) (N:k<Ln l):∃ V C,a=some (ep V C)/\V<w.heap.size/\w.cell? ⟨V,C+k,none⟩=some (.bool l[k]):=by
 rcases h with h | ⟨V,C,e,a2,h⟩
 . subst h;simp at N
 . exact ⟨V,C,e,a2,h k N⟩
structure fM where
 op:Int
 a:Int
 b:Int
structure gQ where
 at_:Int
 kind:Int
 m:Int
structure eK where
 code:List fM
 fixes:List gQ
def fy (p a b:Int) (s:eK):eK:=⟨s.code++[⟨p,a,b⟩],s.fixes⟩
def kW (y m:Int) (i:fM) (s:eK):eK:=⟨s.code++[i],s.fixes++[⟨Ln s.code,y,m⟩]⟩
def fP (p t:Int) (s:eK):eK:=kW 1 0 ⟨p,t,0⟩ s
def nU (x:Int) (i:fM):fM:=⟨i.op,x,i.b⟩
def g8 (k:Nat) (s:eK):eK:=⟨s.code.modify k (nU (Ln s.code)),s.fixes⟩
def kX (s:eK):Bool:=decide (2048<Ln s.code)
def nk (f g:eK->eK) (s:eK):eK:=
 let D:=f s
 let bw:=fy 22 0 0 (g (fP 12 0 D))
 g8 (Ln bw.code) (fy 1 0 0 (g8 (Ln D.code) (fP 11 0 bw)))
def nn (f g:eK->eK) (s:eK):eK:=
 let D:=f s
 let fX:=fy 1 1 0 (fP 12 0 D)
 g8 (Ln fX.code) (fy 22 0 0 (g (g8 (Ln D.code) (fP 11 0 fX))))
def xX:eH:=⟨0,0,0,0,[]⟩
def eM (l:List eH) (i:Nat):eH:=l.getD i xX
def g9 (f:eH->eK->eK) (l:List eH) (s:eK):eK:=l.foldl (fun s y=>f y s) s
def jj (f:eK->eK) (n m g:Int) (s:eK):eK:=kW 3 m ⟨6,g,n⟩ (f s)
def kG (f:eK->eK) (m g:Int) (s:eK):eK:=kW 2 m ⟨13,g,0⟩ (f s)
def eN:Nat->eH->eK->eK
 | 0,_,s=>s
 | k+1,x,s=>
   if x.op=1 then fy 1 x.n 0 s
   else if x.op=2 then fy 18 0 0 s
   else if x.op=16 then fy 2 x.at_ 0 s
   else if x.op=3 then kW 3 x.m ⟨4,x.at_,0⟩ s
   else if x.op=4 then fy 7 0 0 (jj (eN k (eM x.args 0)) x.n x.m x.at_ s)
   else if x.op=5 then kG (g9 (eN k) x.args) x.m x.at_ s
   else if x.op=6 then fy 9 0 0 (eN k (eM x.args 0) s)
   else if x.op=7 then nk (eN k (eM x.args 0)) (eN k (eM x.args 1)) s
   else if x.op=8 then nn (eN k (eM x.args 0)) (eN k (eM x.args 1)) s
   else fy 10 x.op 0 (g9 (eN k) x.args s)
def fZ (f:eB->eK->eK) (l:List eB) (s:eK):eK:=l.foldl (fun s y=>if kX s=true then s else f y s) s
def pJ (f:eK->eK) (m g:Int) (s:eK):eK:=if m = -1 then fy 3 g 0 (f s) else kW 3 m ⟨5,g,0⟩ (f s)
def oQ (f g h:eK->eK) (e:Bool) (s:eK):eK:=
 let D:=f s
 let b6:=g (fP 12 0 D)
 if e=true then g8 (Ln D.code) b6
 else g8 (Ln b6.code) (h (g8 (Ln D.code) (fP 11 0 b6)))
def qM (f g:eK->eK) (s:eK):eK:=
 let D:=f s
 g8 (Ln D.code) (fP 11 (Ln s.code) (g (fy 16 0 0 (fP 12 0 D))))
def gB:Nat->eB->eK->eK
 | 0,_,s=>s
 | k+1,a,s=>
   if a.op=1 then pJ (eN 6 (eM a.args 0)) a.m a.at_ s
   else if a.op=2 then fy 8 0 0 (eN 6 (eM a.args 1) (jj (eN 6 (eM a.args 0)) a.n a.m a.at_ s))
   else if a.op=3 then fy 17 0 0 (kG (g9 (eN 6) a.args) a.m a.at_ s)
   else if a.op=4 then oQ (eN 6 (eM a.args 0)) (fZ (gB k) a.body) (fZ (gB k) a.other) a.other.isEmpty s
   else if a.op=5 then qM (eN 6 (eM a.args 0)) (fZ (gB k) a.body) s
   else if a.op=6 then fy 15 0 0 (eN 6 (eM a.args 0) s)
   else if a.op=7 then fy 19 0 0 (eN 6 (eM a.args 0) s)
   else s
def oR (p:gO) (s:eK):eK:=fy 15 0 0 (fy 1 0 0 (fZ (gB 6) p.body (fy 14 p.params p.locals s)))
def iM (f:eK->eK):Prop:=∀ s,Ln s.code<=(f s).code.length
theorem fR (p a b:Int) (s:eK):(fy p a b s).code.length=Ln s.code+1:=by simp [fy]
theorem iq (k m:Int) (i:fM) (s:eK):(kW k m i s).code.length=Ln s.code+1:=by simp [kW]
theorem gR (p t:Int) (s:eK):(fP p t s).code.length=Ln s.code+1:=iq ..
theorem gI (k:Nat) (s:eK):(g8 k s).code.length=Ln s.code:=by simp [g8]
theorem uQ {f:eH->eK->eK} (ag:∀ x,iM (f x)):∀ l,iM (g9 f l)
 | [],s=>eD _
 | x :: O,s=>iC (ag x s) (uQ ag O (f x s))
theorem nV {f:eB->eK->eK} (ag:∀ x,iM (f x)):∀ l,iM (fZ f l)
 | [],s=>eD _
 | x :: O,s=>by
   show _<=(fZ f O (if kX s=true then s else f x s)).code.length;refine iC ?_ (nV ag O _);split
   . exact eD _
   . exact ag x s
theorem JQ {f g:eK->eK} (ag:iM f) (af:iM g):iM (nk f g):=fun s=>by
 have G:=ag s;have J:=af (fP 12 0 (f s));simp only [nk,gI,fR,gR] at J ⊢;omega
theorem JR {f g:eK->eK} (ag:iM f) (af:iM g):iM (nn f g):=fun s=>by
 have G:=ag s;have J:=af (g8 (f s).code.length (fP 11 0 (fy 1 1 0 (fP 12 0 (f s)))));simp only [nn,gI,fR,gR] at J ⊢;omega
theorem np:∀ k x,iM (eN k x)
 | 0,_,s=>eD _
 | k+1,x,s=>by
   have aH:=fun y=>np k y
   have G:=aH (eM x.args 0) s;have J:=uQ aH x.args s;have S:=JQ (aH (eM x.args 0)) (aH (eM x.args 1)) s;have a6:=JR (aH (eM x.args 0)) (aH (eM x.args 1)) s;unfold eN
   repeat' split
   all_goals first | assumption | (simp only [fR,iq,jj,kG];omega)
theorem JS {f g h:eK->eK} (ag:iM f) (af:iM g) (m:iM h) (e:Bool):iM (oQ f g h e):=fun s=>by
 have G:=ag s;have J:=af (fP 12 0 (f s));have S:=m (g8 (f s).code.length (fP 11 0 (g (fP 12 0 (f s)))));simp only [oQ,gI,fR,gR] at J S ⊢
 split<;>simp only [gI]<;>omega
theorem JT {f g:eK->eK} (ag:iM f) (af:iM g):iM (qM f g):=fun s=>by
 have G:=ag s;have J:=af (fy 16 0 0 (fP 12 0 (f s)));simp only [qM,gI,fR,gR] at J ⊢;omega
theorem JU {f:eK->eK} (ag:iM f) (m g:Int):iM (pJ f m g):=fun s=>by
 have G:=ag s;unfold pJ
 split<;>simp only [fR,iq]<;>omega
theorem qN:∀ k x,iM (gB k x)
 | 0,_,s=>eD _
 | k+1,x,s=>by
   have aH:=fun y=>qN k y
   have bH:=np 6 (eM x.args 0);have G:=bH s;have J:=JU bH x.m x.at_ s;have S:=np 6 (eM x.args 1) (jj (eN 6 (eM x.args 0)) x.n x.m x.at_ s);have a6:=uQ (np 6) x.args s;have ap:=JS bH (nV aH x.body) (nV aH x.other) x.other.isEmpty s;have aw:=JT bH (nV aH x.body) s;unfold gB
   repeat' split
   all_goals first | assumption | (simp only [fR,iq,jj,kG] at S ⊢;omega)
theorem Ci (f:eB->eK->eK):∀ (l:List eB) (s:eK),kX s=true->fZ f l s=s
 | [],s,_=>rfl
 | x :: O,s,h=>by
   show fZ f O (if kX s=true then s else f x s)=s;rw [if_pos h];exact Ci f O s h
theorem JV (f:eH->eK->eK) (l:List eH) (s:eK) (j:Nat) (h:j<Ln l):g9 f (l.take (j+1)) s=f l[j] (g9 f (l.take j) s):=by
 rw [hI h];unfold g9;rw [mS]
 rfl
theorem JW (f:eB->eK->eK) (l:List eB) (s:eK) (j:Nat) (h:j<Ln l) (U:kX (fZ f (l.take j) s)=false):fZ f (l.take (j+1)) s=f l[j] (fZ f (l.take j) s):=by
 rw [hI h];unfold fZ at U ⊢;rw [mS];simp only [List.foldl_cons,List.foldl_nil];rw [if_neg (by rw [U];decide)]
theorem JX (f:eB->eK->eK) (l:List eB) (s:eK) (j:Nat) (U:kX (fZ f (l.take j) s)=true):fZ f l s=fZ f (l.take j) s:=by
 have:=Ci f (l.drop j) (fZ f (l.take j) s) U;rw [← this];unfold fZ;rw [← mS,rk]
theorem JY (f:eH->eK->eK) (ag:∀ x,iM (f x)) (l:List eH) (s:eK) (j:Nat):(g9 f (l.take j) s).code.length<=(g9 f l s).code.length:=by
 have:=uQ ag (l.drop j) (g9 f (l.take j) s);unfold g9 at this ⊢;rwa [← mS,rk] at this
theorem JZ (f:eB->eK->eK) (ag:∀ x,iM (f x)) (l:List eB) (s:eK) (j:Nat):(fZ f (l.take j) s).code.length<=(fZ f l s).code.length:=by
 have:=nV ag (l.drop j) (fZ f (l.take j) s);unfold fZ at this ⊢;rwa [← mS,rk] at this
theorem rI (l:List eH) (i:Nat) (h:i<Ln l):eM l i=l[i]:=by simp [eM,lJ,gb h]
def kj (i:fM):List Value:=[em i.op,em i.a,em i.b]
def gj (l:List fM):List Value:=l.flatMap kj
def sT (f:gQ):List Value:=[em f.at_,em f.kind,em f.m]
def oS (l:List gQ):List Value:=l.flatMap sT
theorem uR (l:List fM) (i:fM):gj (l++[i])=gj l++kj i:=by simp [gj]
theorem J0 (l:List gQ) (i:gQ):oS (l++[i])=oS l++sT i:=by simp [oS]
theorem Cj (l:List fM):(gj l).length=Ln l*3:=by
 induction l with
 | nil=>rfl
 | cons x O aH=>simp only [gj,lh,gn,iH] at aH ⊢;rw [aH];simp [kj];omega
theorem xY:∀ (l:List fM) (k:Nat) (x:Int),k<Ln l->gj (l.modify k (nU x))=(gj l).set (k*3+1) (em x)
 | [],k,_,h=>by simp at h
 | i :: O,0,x,_=>by simp [gj,kj,nU]
 | i :: O,k+1,x,h=>by
   have:=xY O k x (by simpa using h);simp only [gj,List.modify_succ_cons,lh] at this ⊢;rw [this,show (k+1)*3+1=(kj i).length+(k*3+1) from by simp [kj];omega,List.set_append_right _ _ (by omega),Nat.add_sub_cancel_left]
theorem Cm (l:List fM) (k:Nat) (h:k<Ln l):(gj l)[k*3+1]? = some (em l[k].a):=by
 induction l generalizing k with
 | nil=>simp at h
 | cons x O aH=>
   cases k with
   | zero=>rfl
   | succ k=>
     have:=aH k (by simpa using h);simp only [gj,lh,pl] at this ⊢;rw [om (by simp [kj];omega),show (k+1)*3+1 - (kj x).length=k*3+1 from by simp [kj];omega];exact this
theorem qO (i:fM):∀ u ∈ kj i,u.oneCell'=true:=by simp [kj];exact ⟨rfl,rfl,rfl⟩
theorem J1 (i:gQ):∀ u ∈ sT i,u.oneCell'=true:=by simp [sT];exact ⟨rfl,rfl,rfl⟩
structure pK (w w':World) (B:Nat) (e:TypeId) (size:Nat) (v:Value) (n:Nat) (g cap:Nat) (xs:List Value):Prop where
 own:w'.ownsRow B e size (.slice (some (ep g 0)) (n+1) cap) (n+1) xs
 below:Below B w w'
 size:w.heap.size<w'.heap.size
 old:∀ (b:Nat) (x:Obj),w.heap[b]? = some x->v.ownBlock≠some b->w'.heap[b]? = some x
 at_:v.ownBlock=some g\/w.heap.size<g
theorem pL {rest:List Oper} {o:Oper} {a:Act} (m:o.guard=none) (s x:Operand) (t:TypeId)
 (aa:o.op = .call { callee:=.builtin .append,args:=#[s,x],argTypes:=#[t,t] }) (Y:Nat) (e:TypeId) (z:Value) (size bytes:Nat) (aj:P.underlying t=some (.slice e))
 (X:(P.info? e).map (fun i=>(i.zero,i.size,i.bytes))=some (some z,size,bytes)) (C:z.cells.size=size) (O:0<size) (w:World) (v:Value) (n:Nat) (ae:List Value) (Z:a.eval s=v) (ba:w.ownsRow Y e size v n ae)
 (cs:Array Value) (H:Nat) (c:H=w.heap.size) (Q:a.eval x = .slice (some (ep H 0)) 1 1) (R:cs.size=size) (G:∀ u ∈ cs.toList,u.oneCell'=true)
 (U:n<=2000000) (a4:bytes<=200) (p:Y<=w.heap.size) (M:World) (L:M=w.alloc (.cells cs e))
 (h:∀ g I r,pK w r Y e size v n g I (ae++cs.toList)->wpList P ops T rest (a.put o.dst (.slice (some (ep g 0)) (n+1) I)) r) :
 wpList P ops T (o :: rest) a M:=by
 subst L;obtain ⟨bx,X,al,b0,bl⟩:=info_parts X
 have a6:(w.alloc (.cells cs e)).heap.size=w.heap.size+1:=by simp
 refine wpList_append_lies (w.alloc (.cells cs e)) m s x t aa Y e bx z size bytes aj X al b0 bl C O v n ae Z (ba.alloc _) (ep H 0) 1 1 cs.toList Q (by simp [R]) ?_ G (by omega) (by unfold maxLen;omega) ?_ (by omega) _ rfl ?_
 . intro j u ac
   subst c
   have:((ep w.heap.size 0):Addr).add j=(ep w.heap.size j):=by unfold Addr.add;split<;>simp_all
   rw [this,fU (eT w _)];simpa using ac
 . have:(n+1)*bytes<=2000001*200:=ua (by omega) a4
   omega
 . intro g I r d f a5 a0
   have J:=f.size;refine h g I r ⟨d,((Below.refl Y w).alloc p _).grown f (by omega) (fun k N=>(ba.lt k N).1),by omega,fun V x F aV=>?_,a5.imp id (fun e=>by omega)⟩;have aJ:(w.alloc (.cells cs e)).heap[V]? = some x:=fF F;exact (f.block V (lt_of_heap aJ) (fun e=>aV e.symm)).trans aJ
theorem xZ {o:Oper} {a:Act} {K:Act->World->Prop} {E:Prop} (m:o.guard=none) (s x:Operand) (t:TypeId)
 (aa:o.op = .call { callee:=.builtin .append,args:=#[s,x],argTypes:=#[t,t] }) (Y:Nat) (e:TypeId) (z:Value) (size bytes:Nat) (aj:P.underlying t=some (.slice e))
 (X:(P.info? e).map (fun i=>(i.zero,i.size,i.bytes))=some (some z,size,bytes)) (C:z.cells.size=size) (O:0<size) (w:World) (v:Value) (n:Nat) (ae:List Value) (Z:a.eval s=v) (ba:w.ownsRow Y e size v n ae)
 (cs:Array Value) (H:Nat) (c:H=w.heap.size) (Q:a.eval x = .slice (some (ep H 0)) 1 1) (R:cs.size=size) (G:∀ u ∈ cs.toList,u.oneCell'=true)
 (U:n<=2000000) (a4:bytes<=200) (p:Y<=w.heap.size) (M:World) (L:M=w.alloc (.cells cs e))
 (h:∀ g I r,pK w r Y e size v n g I (ae++cs.toList)->K (a.put o.dst (.slice (some (ep g 0)) (n+1) I)) r) :
 if Region.wanted o (yielded ops a.tmps)=true then Oper.wp P o a M K T else E:=by
 subst L;obtain ⟨bx,X,al,b0,bl⟩:=info_parts X
 have a6:(w.alloc (.cells cs e)).heap.size=w.heap.size+1:=by simp
 refine step_append_lies (w.alloc (.cells cs e)) m s x t aa Y e bx z size bytes aj X al b0 bl C O v n ae Z (ba.alloc _) (ep H 0) 1 1 cs.toList Q (by simp [R]) ?_ G (by omega) (by unfold maxLen;omega) ?_ (by omega) _ rfl ?_
 . intro j u ac
   subst c
   have:((ep w.heap.size 0):Addr).add j=(ep w.heap.size j):=by unfold Addr.add;split<;>simp_all
   rw [this,fU (eT w _)];simpa using ac
 . have:(n+1)*bytes<=2000001*200:=ua (by omega) a4
   omega
 . intro g I r d f a5 a0
   have J:=f.size;refine h g I r ⟨d,((Below.refl Y w).alloc p _).grown f (by omega) (fun k N=>(ba.lt k N).1),by omega,fun V x F aV=>?_,a5.imp id (fun e=>by omega)⟩;have aJ:(w.alloc (.cells cs e)).heap[V]? = some x:=fF F;exact (f.block V (lt_of_heap aJ) (fun e=>aV e.symm)).trans aJ
theorem il {n:Nat} (h:w.ownsRow B e p v n ae) (N:∀ k,v.ownBlock=some k->r.heap[k]? = w.heap[k]?):r.ownsRow B e p v n ae:=by
 refine ⟨h.1,?_⟩
 rcases h.2 with G | ⟨g,I,o,a7,F,af,W⟩
 . exact Or.inl G
 . exact Or.inr ⟨g,I,o,a7,F,(N g (by rw [a7];rfl)).trans af,W⟩
theorem im {n:Nat} (h:w.ownsRow B e p v n ae):∃ a I,v = .slice a n I/\n<=I/\I<=maxLen:=by
 rcases h.2 with ⟨G,J⟩ | ⟨g,I,o,a7,_,_,S,a6,_⟩
 . exact ⟨none,0,by rw [J];exact G,by omega,by unfold maxLen;omega⟩
 . exact ⟨_,I,a7,S,a6⟩
theorem ownsRow_set {n:Nat} (h:w.ownsRow B e p (.slice (some (ep g 0)) n I) n ae) (j:Nat) (u:Value) (ac:j<n*p) :
 (w.setCell (ep g j) u).ownsRow B e p (.slice (some (ep g 0)) n I) n (ae.set j u):=by
 refine ⟨by rw [List.length_set];exact h.1,?_⟩
 rcases h.2 with ⟨G,_⟩ | ⟨aj,f,o,a7,F,af,S,a6,ap,aw⟩
 . cases G
 . cases a7
   refine Or.inr ⟨g,I,o.setIfInBounds j u,rfl,F,heap_set af u,S,a6,by rw [Array.size_setIfInBounds];exact ap,?_⟩;rw [Array.toList_setIfInBounds,← aw,List.take_set]
structure hq (w0 w:World) (R:Nat) (K:List (Nat × Obj)) (cv fv:Value) (s:eK):Prop where
 blk:w.heap[R]? = some (.cells #[cv,fv] 136)
 hR:w0.heap.size<=R
 code:w.ownsRow w0.heap.size 69 3 cv (Ln s.code) (gj s.code)
 fix:w.ownsRow w0.heap.size 67 3 fv (Ln s.fixes) (oS s.fixes)
 apt:mK cv fv
 nc:cv.ownBlock≠some R
 nf:fv.ownBlock≠some R
 below:et w0 w
 kp:∀ x ∈ K,w.heap[x.1]? = some x.2/\x.1≠R/\cv.ownBlock≠some x.1/\fv.ownBlock≠some x.1
def eS (w0 w:World) (R:Nat) (K:List (Nat × Obj)) (s:eK):Prop:=Ln s.fixes<=Ln s.code/\∃ q Y,hq w0 w R K q Y s
section
variable {w0 w r:World} {R:Nat} {K K':List (Nat × Obj)} {q Y:Value} {s:eK}
theorem hq.ltR (h:hq w0 w R K q Y s):R<w.heap.size:=lt_of_heap h.blk
theorem hq.hB (h:hq w0 w R K q Y s):w0.heap.size<=w.heap.size:=iC h.hR (Nat.le_of_lt h.ltR)
theorem hq.later (h:hq w0 w R K q Y s) (F:et w r):hq w0 r R K q Y s:=
 { h with
   blk:=(F.block R h.ltR).trans h.blk
   code:=ownsRow_later h.code F
   fix:=ownsRow_later h.fix F
   below:=h.below.trans (F.mono h.hB)
   kp:=fun x Q=>⟨(F.block _ (lt_of_heap (h.kp x Q).1)).trans (h.kp x Q).1,(h.kp x Q).2⟩}
theorem hq.alloc (h:hq w0 w R K q Y s) (o:Obj):hq w0 (w.alloc o) R K q Y s:=h.later ((Below.refl _ _).alloc (eD _) o)
theorem hq.drew (h:hq w0 w R K q Y s):hq w0 w.drew R K q Y s:=h.later (Below.refl _ _).drew
theorem hq.box (h:hq w0 w R K q Y s) (o:Obj):hq w0 (w.alloc o) R ((w.heap.size,o) :: K) q Y s:=
 { h.alloc o with
   kp :=fun x Q=>by
    rcases lM.1 Q with rfl | Q
    . refine ⟨eT w o,fun e=>by have:=h.ltR;simp only at e;omega,fun e=>?_,fun e=>?_⟩
      . have:=(h.code.lt _ e).2;simp only at this;omega
      . have:=(h.fix.lt _ e).2;simp only at this;omega
    . exact (h.alloc o).kp x Q }
theorem hq.sub (h:hq w0 w R K q Y s) (aA:∀ x ∈ K',x ∈ K):hq w0 w R K' q Y s:={ h with kp:=fun x Q=>h.kp x (aA x Q) }
theorem eS.later (h:eS w0 w R K s) (F:et w r):eS w0 r R K s:=by obtain ⟨a2,_,_,h⟩:=h;exact ⟨a2,_,_,h.later F⟩
theorem eS.alloc (h:eS w0 w R K s) (o:Obj):eS w0 (w.alloc o) R K s:=by obtain ⟨a2,_,_,h⟩:=h;exact ⟨a2,_,_,h.alloc o⟩
theorem eS.drew (h:eS w0 w R K s):eS w0 w.drew R K s:=by obtain ⟨a2,_,_,h⟩:=h;exact ⟨a2,_,_,h.drew⟩
theorem eS.box (h:eS w0 w R K s) (o:Obj):eS w0 (w.alloc o) R ((w.heap.size,o) :: K) s:=by obtain ⟨a2,_,_,h⟩:=h;exact ⟨a2,_,_,h.box o⟩
theorem eS.sub (h:eS w0 w R K s) (aA:∀ x ∈ K',x ∈ K):eS w0 w R K' s:=by obtain ⟨a2,_,_,h⟩:=h;exact ⟨a2,_,_,h.sub aA⟩
theorem eS.tail {x:Nat × Obj} (h:eS w0 w R (x :: K) s):eS w0 w R K s:=h.sub fun _=>gC _
theorem eS.has (h:eS w0 w R K s) {b:Nat} (Q:(b,o) ∈ K):w.heap[b]? = some o:=by obtain ⟨_,_,_,h⟩:=h;exact (h.kp _ Q).1
theorem eS.head {b:Nat} (h:eS w0 w R ((b,o) :: K) s):w.heap[b]? = some o:=h.has (gV ..)
theorem eS.below (h:eS w0 w R K s):et w0 w:=by obtain ⟨_,_,_,h⟩:=h;exact h.below
theorem hq.cells (h:hq w0 w R K q Y s):w.cell? (ep R 0)=some q/\w.cell? (ep R 1)=some Y/\∀ j,w.frozen? (ep R j)=false:=
 ⟨by rw [fU h.blk];rfl,by rw [fU h.blk];rfl,fun j=>ih h.blk j⟩
theorem hq.putC (h:hq w0 w R K q Y s) {i:fM} (aa:pK w r w0.heap.size 69 3 q (Ln s.code) g I (gj s.code++kj i)) :
 r.cell? (ep R 0)=some q/\r.frozen? (ep R 0)=false/\hq w0 (r.setCell (ep R 0) (.slice (some (ep g 0)) (Ln s.code+1) I)) R K (.slice (some (ep g 0)) (Ln s.code+1) I) Y ⟨s.code++[i],s.fixes⟩:=by
 have F:=aa.old R _ h.blk h.nc
 have a:g≠R:=fun e=>by
  rcases aa.at_ with G | G
  . exact h.nc (by rw [G,e])
  . have:=h.ltR;omega
 have aV:∀ V,V≠R->(r.setCell (ep R 0) (.slice (some (ep g 0)) (Ln s.code+1) I)).heap[V]? = r.heap[V]?:=fun V F=>fa (p:=(ep R 0)) F _
 refine ⟨by rw [fU F];rfl,ih F 0,?_⟩
 exact {
  blk:=(heap_set F _).trans rfl
  hR:=h.hR
  code:=by
   have:=il (r:=r.setCell (ep R 0) (.slice (some (ep g 0)) (Ln s.code+1) I)) aa.own (fun k N=>aV k (fun e=>by simp only [Value.ownBlock,kR] at N;omega));rw [uR,gn];exact this
  fix:=il h.fix (fun k N=>by
   rw [aV k (fun e=>h.nf (by rw [N,e]))];have a2:=(h.fix.lt k N).2
   exact (aa.old k _ (by rw [qo a2]) (fun e=>h.apt k e N)).trans (qo a2).symm)
  apt:=fun k G J=>by
   simp only [Value.ownBlock,kR] at G
   rcases aa.at_ with S | S
   . exact h.apt k (by rw [S,G]) J
   . have:=(h.fix.lt k J).2;omega
  nc:=fun e=>a (by simpa [Value.ownBlock] using e)
  nf:=h.nf
  below:=(h.below.trans aa.below).setCell (p:=(ep R 0)) h.hR _
  kp:=fun x Q=>by
   obtain ⟨G,J,S,a6⟩:=h.kp x Q;refine ⟨(aV _ J).trans (aa.old _ _ G S),J,fun e=>?_,a6⟩;simp only [Value.ownBlock,kR] at e
   rcases aa.at_ with ap | ap
   . exact S (by rw [ap,e])
   . have:=lt_of_heap G;omega }
theorem hq.putF (h:hq w0 w R K q Y s) {i:gQ} (aa:pK w r w0.heap.size 67 3 Y (Ln s.fixes) g I (oS s.fixes++sT i)) :
 r.cell? (ep R 1)=some Y/\r.frozen? (ep R 1)=false/\hq w0 (r.setCell (ep R 1) (.slice (some (ep g 0)) (Ln s.fixes+1) I)) R K q (.slice (some (ep g 0)) (Ln s.fixes+1) I) ⟨s.code,s.fixes++[i]⟩:=by
 have F:=aa.old R _ h.blk h.nf
 have a:g≠R:=fun e=>by
  rcases aa.at_ with G | G
  . exact h.nf (by rw [G,e])
  . have:=h.ltR;omega
 have aV:∀ V,V≠R->(r.setCell (ep R 1) (.slice (some (ep g 0)) (Ln s.fixes+1) I)).heap[V]? = r.heap[V]?:=fun V F=>fa (p:=(ep R 1)) F _
 refine ⟨by rw [fU F];rfl,ih F 1,?_⟩
 exact {
  blk:=(heap_set F _).trans rfl
  hR:=h.hR
  fix:=by
   have:=il (r:=r.setCell (ep R 1) (.slice (some (ep g 0)) (Ln s.fixes+1) I)) aa.own (fun k N=>aV k (fun e=>by simp only [Value.ownBlock,kR] at N;omega));rw [J0,gn];exact this
  code:=il h.code (fun k N=>by
   rw [aV k (fun e=>h.nc (by rw [N,e]))];have a2:=(h.code.lt k N).2
   exact (aa.old k _ (by rw [qo a2]) (fun e=>h.apt k N e)).trans (qo a2).symm)
  apt:=fun k J G=>by
   simp only [Value.ownBlock,kR] at G
   rcases aa.at_ with S | S
   . exact h.apt k J (by rw [S,G])
   . have:=(h.code.lt k J).2;omega
  nf:=fun e=>a (by simpa [Value.ownBlock] using e)
  nc:=h.nc
  below:=(h.below.trans aa.below).setCell (p:=(ep R 1)) h.hR _
  kp:=fun x Q=>by
   obtain ⟨G,J,S,a6⟩:=h.kp x Q;refine ⟨(aV _ J).trans (aa.old _ _ G a6),J,S,fun e=>?_⟩;simp only [Value.ownBlock,kR] at e
   rcases aa.at_ with ap | ap
   . exact a6 (by rw [ap,e])
   . have:=lt_of_heap G;omega }
end
theorem Tryz.infoInstr:(prog.info? 69).map (fun i=>(i.zero,i.size,i.bytes))=some (some (.agg #[em 0,em 0,em 0]),3,24):=by kernel_rfl
theorem Tryz.infoFix:(prog.info? 67).map (fun i=>(i.zero,i.size,i.bytes))=some (some (.agg #[em 0,em 0,em 0]),3,24):=by kernel_rfl
theorem rJ {w0:World} {s:eK} (h:eS w0 w R K s) :
 ew 78 #[eL R 0] w fun e r=>e = .returned (em (Ln s.code))/\r=w:=by
 obtain ⟨-,q,Y,h⟩:=h;obtain ⟨a,I,rfl, -, -⟩:=im h.code;obtain ⟨bh, -, -⟩:=h.cells;clear h;go_enter func78,ntmps78;go_wp2_with fail;go_ret;exact ⟨rfl,rfl⟩
theorem Cn {w0:World} {s:eK} (h:eS w0 w R K s) :
 ew 80 #[eL R 0] w fun e r=>e = .returned (.bool (kX s))/\r=w:=by
 obtain ⟨-,q,Y,h⟩:=h;obtain ⟨a,I,rfl, -, -⟩:=im h.code;obtain ⟨bh, -, -⟩:=h.cells;clear h;go_enter func80,ntmps80;go_wp2_with fail;go_ret;exact ⟨ret_bool (by unfold kX;exact decide_eq_decide.2 (by omega)),rfl⟩
theorem jL {w0:World} {s:eK} (p a b:Int) (h:eS w0 w R K s) (W:Ln s.code<=1000000) :
 ew 129 #[eL R 0,em p,em a,em b] w fun e r=>e = .returned (.tuple #[])/\eS w0 r R K (fy p a b s):=by
 obtain ⟨a2,q,Y,h⟩:=h;obtain ⟨bh, -, -⟩:=h.cells;have aq:=hid h;obtain ⟨t,sc,rfl, -, -⟩:=im h.code;clear h;go_enter func129,ntmps129
 go_wp2_with (at_builtin;refine pL rfl (.tmp 12) (.tmp 17) 59 rfl w0.heap.size 69 _ 3 24 Tryz.underlying59 Tryz.infoInstr rfl (by decide) w (.slice t (Ln s.code) sc) (Ln s.code) (gj s.code) rfl aq.code #[em p,em a,em b] _ rfl rfl rfl (qO ⟨p,a,b⟩) (by omega) (by decide) aq.hB _ rfl ?_;intro g I eq aa;obtain ⟨b5,aL,L⟩:=aq.putC (i:=⟨p,a,b⟩) aa;have aO:=hid L;clear aa L)
 go_end0;exact ⟨rfl,by simp only [fy,gn,iH,qt];omega,_,_,aO⟩
theorem Co:Enters prog 78:=enters_of func78 (by kernel_rfl) rfl
theorem sU {w0:World} {s:eK} (y m p a b:Int) (h:eS w0 w R K s) (W:Ln s.code<=1000000) :
 ew 270 #[eL R 0,em y,em m,.agg #[em p,em a,em b]] w fun e r=>e = .returned (.tuple #[])/\eS w0 r R K (kW y m ⟨p,a,b⟩ s):=by
 obtain ⟨a2,q,Y,h⟩:=h;obtain ⟨az,t,rfl, -, -⟩:=im h.fix;obtain ⟨aA,bP,rfl, -, -⟩:=im h.code;have a6:=hid ((h.sub (K':=[]) (by simp)).box (.cells #[em p,em a,em b] 69));have aq:=hid (h.box (.cells #[em p,em a,em b] 69));obtain ⟨bh,a9,cf⟩:=aq.cells;have ak:=aq.ltR;clear h;go_enter func270,ntmps270;go_upto_region 1 with fail;generalize b8:w.alloc (.cells #[em p,em a,em b] 69)=eq at *;have aK:=hid aq.drew;have aH:=hid (fun (M:World) (L:M=eq.drew)=>(by subst L;exact (rJ (K:=(w.heap.size,.cells #[em p,em a,em b] 69) :: K) (s:=s) ⟨a2,_,_,aK⟩).mono (fun e r h=>⟨_,h.1,rfl,h.2⟩):ew 78 #[eL R 0] M fun e r=>∃ u,e = .returned u/\(u=em (Ln s.code)/\r=M)));have ao:=hid aK.cells.2.1;have d:=hid (fun o=>(aK.alloc o).cells.2.1)
 go_region_law
  (first
    | (refine og (by rfl) 78 _ _ (by rfl) Co _ (by rfl) (aH _ rfl) ?_;rintro u w2 ⟨rfl,rfl⟩)
    | (refine xZ rfl (.tmp 12) (.tmp 18) 60 rfl w0.heap.size 67 _ 3 24 Tryz.underlying60 Tryz.infoFix rfl (by decide) eq.drew (.slice az (Ln s.fixes) t) (Ln s.fixes) (oS s.fixes) rfl aK.fix #[em (Ln s.code),em y,em m] _ (by simp) rfl rfl (J1 ⟨Ln s.code,y,m⟩) (by omega) (by decide) aK.hB _ rfl ?_;intro g I eC aa;obtain ⟨b5,aL,L⟩:=aK.putF (i:=⟨Ln s.code,y,m⟩) aa;have aO:=hid L;clear aa L))
 all_goals
  generalize U:eC.setCell (ep R 1) (.slice (some (ep g 0)) (Ln s.fixes+1) I)=eA at *;clear b5 aL bh a9 cf ak aH ao d;obtain ⟨bh,a9,cf⟩:=aO.cells;have ak:=aO.ltR;have N:=(aO.kp _ (gV ..)).1;obtain ⟨af,E,ae, -⟩:=pG N;have ap:=lt_of_heap N;have c:=hid aO.drew;clear N;go_wp2_with fail
  go_region_law (first
   | (refine xZ rfl (.tmp 26) (.tmp 28) 59 rfl w0.heap.size 69 _ 3 24 Tryz.underlying59 Tryz.infoInstr rfl (by decide) eA.drew (.slice aA (Ln s.code) bP) (Ln s.code) (gj s.code) rfl c.code #[em p,em a,em b] _ (by simp) rfl rfl (qO ⟨p,a,b⟩) (by omega) (by decide) c.hB _ rfl ?_;intro bs cap5 eJ aa;obtain ⟨b5,aL,L⟩:=c.putC (i:=⟨p,a,b⟩) aa;have a0:=hid L;clear aa L))
  all_goals
   go_end0;exact ⟨rfl,by simp only [kW,gn,iH,qt];omega,_,_,a0.sub (fun x Q=>gC _ Q)⟩
theorem Cp {w0:World} {s:eK} (p t:Int) (h:eS w0 w R K s) (W:Ln s.code<=1000000) :
 ew 275 #[eL R 0,em p,em t] w fun e r=>e = .returned (.tuple #[])/\eS w0 r R K (fP p t s):=by
 have aO:=hid h;clear h;go_enter func275,ntmps275;go_wp2_with fail;refine (sU 1 0 p t 0 aO W).mono ?_;rintro e eq ⟨rfl,G⟩;have aP:=hid G;clear G;go_wp2_with fail;go_end0;exact ⟨rfl,aP⟩
def rK (R:Nat):Obj:=.cells #[eL R 0] 134
def uS (n:Nat):Obj:=.cells #[em n] 3
theorem pM {w0:World} {s:eK} (p:Int) (h:eS w0 w R K s) (W:Ln s.code<=1000000) :
 ew 274 #[eL R 0,em p] w fun e r=>e = .returned (.func (.func 291) #[] #[eL w.heap.size 0,.pointer (some ⟨w.heap.size+1,0,none⟩)])/\eS w0 r R ((w.heap.size+1,uS (Ln s.code)) :: (w.heap.size,rK R) :: K) (fP p 0 s):=by
 have aO:Hid (eS w0 (w.alloc (.cells #[eL R 0] 134)) R ((w.heap.size,rK R) :: K) s):=h.box (rK R)
 have j:Hid (eS w0 ((w.alloc (.cells #[eL R 0] 134)).alloc (.cells #[em (Ln s.code)] 3)) R ((w.heap.size+1,uS (Ln s.code)) :: (w.heap.size,rK R) :: K) s):=by
  have:=(h.box (rK R)).box (uS (Ln s.code));rw [qs] at this;exact this
 clear h;go_enter func274,ntmps274;go_wp2_with fail;refine (rJ aO).mono ?_;rintro e eq ⟨rfl,rfl⟩;go_wp2_with fail;refine (Cp p 0 j W).mono ?_;rintro e eq ⟨rfl,G⟩;have aP:=hid G;clear G;go_wp2_with fail;go_ret;exact ⟨rfl,aP⟩
theorem hq.land {w0:World} {s:eK} {Y:Value} (h:hq w0 w R K (.slice (some (ep g 0)) (Ln s.code) I) Y s) (k:Nat) (N:k<Ln s.code) :
 w.cell? ⟨g,k*3+1,none⟩=some (em s.code[k].a)/\w.frozen? ⟨g,k*3+1,none⟩=false/\hq w0 (w.setCell ⟨g,k*3+1,none⟩ (em (Ln s.code))) R K (.slice (some (ep g 0)) (Ln s.code) I) Y (g8 k s):=by
 have a1:=h.code.cells (g:=g) rfl _ _ (Cm s.code k N);rw [show ((ep g 0):Addr).add (k*3+1)=⟨g,k*3+1,none⟩ from by unfold Addr.add;split<;>simp_all] at a1;have b:w0.heap.size<=g:=(h.code.lt g rfl).1
 have aV:∀ V,V≠g->(w.setCell ⟨g,k*3+1,none⟩ (em (Ln s.code))).heap[V]? = w.heap[V]?:=fun V F=>fa (p:=⟨g,k*3+1,none⟩) F _
 have a:R≠g:=fun e=>h.nc (by rw [e];rfl)
 refine ⟨a1,?_,?_⟩
 . rcases h.code.2 with ⟨G,_⟩ | ⟨aj,f,o,a7,_,af,_⟩
   . cases G
   . cases a7;exact ih af _
 . have ba:=ownsRow_set h.code (k*3+1) (em (Ln s.code)) (by omega)
   rw [← xY s.code k _ N] at ba
   exact {
    blk:=(aV R a).trans h.blk
    hR:=h.hR
    code:=by rw [gI];exact ba
    fix:=il h.fix (fun V F=>aV V (fun e=>h.apt g rfl (by rw [F,e])))
    apt:=h.apt
    nc:=h.nc
    nf:=h.nf
    below:=h.below.setCell (p:=⟨g,k*3+1,none⟩) b _
    kp:=fun x Q=>by
     obtain ⟨G,J,S,a6⟩:=h.kp x Q
     exact ⟨(aV _ (fun e=>S (by rw [e];rfl))).trans G,J,S,a6⟩}
theorem pN {w0:World} {s:eK} {b:Nat} (h:eS w0 w R K s) (G:(b,rK R) ∈ K) (J:(b+1,uS k) ∈ K) (N:k<Ln s.code) (W:Ln s.code<=1000000) :
 ew 291 #[eL b 0,.pointer (some ⟨b+1,0,none⟩)] w fun e r=>e = .returned (.tuple #[])/\eS w0 r R K (g8 k s):=by
 have S:=hid (fun (M:World) (L:eS w0 M R K s)=>((rJ L).mono (fun e r h=>⟨_,h.1,rfl,h.2⟩):ew 78 #[eL R 0] M fun e r=>∃ u,e = .returned u/\(u=em (Ln s.code)/\r=M)));have aH:=hid (S _ h.drew);obtain ⟨a2,q,Y,h⟩:=h;obtain ⟨g,I,rfl, -⟩:=h.code.form (by omega)
 have an:w.cell? (ep b 0)=some (eL R 0):=by rw [fU (h.kp _ G).1];rfl
 have aD:w.cell? ⟨b+1,0,none⟩=some (em k):=by rw [fU (h.kp _ J).1];rfl
 obtain ⟨bh, -, -⟩:=h.cells;obtain ⟨aF,T,o⟩:=h.land k N;have am:=o.drew;clear o
 have ao:Hid (w.drew.cell? (ep b 0)=some (eL R 0)/\w.drew.cell? ⟨b+1,0,none⟩=some (em k)/\w.drew.cell? (ep R 0)=some (.slice (some (ep g 0)) (Ln s.code) I)):=⟨an,aD,bh⟩
 have cs:Hid ((w.setCell ⟨g,k*3+1,none⟩ (em (Ln s.code))).drew.cell? (ep b 0)=some (eL R 0)/\(w.setCell ⟨g,k*3+1,none⟩ (em (Ln s.code))).drew.cell? ⟨b+1,0,none⟩=some (em k)/\(w.setCell ⟨g,k*3+1,none⟩ (em (Ln s.code))).drew.cell? (ep R 0)=some (.slice (some (ep g 0)) (Ln s.code) I)):=
  ⟨by rw [fU (am.kp _ G).1];rfl,by rw [fU (am.kp _ J).1];rfl,am.cells.1⟩
 have b8:=hid am;clear h am S G J;go_enter func291,ntmps291;go_upto_region 0 with fail
 go_region_held_law (fun M=>M.cell? (ep b 0)=some (eL R 0)/\M.cell? ⟨b+1,0,none⟩=some (em k)/\M.cell? (ep R 0)=some (.slice (some (ep g 0)) (Ln s.code) I)) (first | with_reducible exact ao | with_reducible exact cs)
  (first
    | (refine og (by rfl) 78 _ _ (by rfl) Co _ (by rfl) aH ?_;rintro u w2 ⟨rfl,rfl⟩))
 all_goals
  go_end0;exact ⟨rfl,by rw [gI];exact a2,_,_,b8⟩
def ha (w0:World) (R k:Nat) (y:eH):Prop:=∀ (A:Nat->Prop) (t:OA) (cp:Nat) (K:List (Nat × Obj)) (s:eK) (w:World),eE w0 A t (Ln y.args) (fY y.args)->eS w0 w R K s->(eN k y s).code.length<=1000000->
 ew 216 #[eL R 0,.agg #[em y.op,em y.n,em y.m,em y.at_,.slice t (Ln y.args) cp]] w fun e r=>e = .returned (.tuple #[])/\eS w0 r R K (eN k y s)
theorem Cr {w0:World} {s:eK} {a:OA} (ay:∀ y ∈ l,ha w0 R k y) (ax:eE w0 A a (Ln l) (fY l)) (h:eS w0 w R K s) (W:(g9 (eN k) l s).code.length<=1000000) :
 ew 273 #[eL R 0,.slice a (Ln l) I] w fun e r=>e = .returned (.tuple #[])/\eS w0 r R K (g9 (eN k) l s):=by
 have bC:=ax.bound;have aK:=hid ax;have aO:=hid h;have aF:=hid ay;have z:=hid (fun j=>iC (JY (eN k) (np k) l s j) W);clear ax h ay W;go_enter func273,ntmps273;go_wp2_with fail
 go_loopw [8] (fun i wr=>∃ j:Nat,j<=Ln l/\i=em j/\eS w0 wr R K (g9 (eN k) (l.take j) s)) (fun i _=>Ln l - (intOf i).toNat)
 case atStart=>exact ⟨0,eY _,rfl,aO⟩
 case round=>
  obtain ⟨j,ac,rfl,aq⟩:=hrel;have aP:=hid aq;clear aq
  by_cases a0:j<Ln l
  . obtain ⟨V,C,t,cp,rfl,Q⟩:=(aK.later aP.below).nd j a0
    obtain ⟨bA,cf,aa',cp',aJ,a3⟩:=aK.nd j a0
    cases aJ
    obtain ⟨ap,af,E,ae,H,aj,_,_,_,_,_⟩:=Q;have b8:=(aP.below.cell (p:=⟨V,C+j*5+4,none⟩) a3.lt).trans a3.c4
    obtain ⟨rfl,rfl⟩:t=aa'/\cp=cp':=by
     rw [aj] at b8;simp only [kR,Value.slice.injEq] at b8;exact ⟨b8.1,b8.2.2⟩
    have ar:=hid a3.args';have P:=hid (JV (eN k) l s j a0);have v:=hid (z (j+1));rw [P.out] at v;have ab:=hid (aF l[j] (fO a0));clear b8 a3;generalize l[j]=x at *;go_wp2_with fail;refine (ab A t cp K _ _ ar (aP.alloc _) v).mono ?_;rintro e eC ⟨rfl,S⟩;have X:=hid S;clear S;go_wp2_with fail;go_roundw
    case rel=>exact ⟨j+1,by omega,by go_num,by rw [P.out];exact X⟩
    case measure=>simp [intOf];omega
  . obtain rfl:j=Ln l:=by omega
    rw [iA] at aP;go_wp2_with fail;go_end0;exact ⟨rfl,aP⟩
theorem Cs {w0:World} {s:eK} (n m g:Int) (ay:ha w0 R k y) (ax:eE w0 A t (Ln y.args) (fY y.args)) (h:eS w0 w R K s) (W:(eN k y s).code.length<=1000000) :
 ew 215 #[eL R 0,em n,em m,em g,.agg #[em y.op,em y.n,em y.m,em y.at_,.slice t (Ln y.args) cp]] w fun e r=>e = .returned (.tuple #[])/\eS w0 r R K (jj (eN k y) n m g s):=by
 have aO:=hid h;have ao:=hid (fun (o:Obj)=>ay A t cp K s _ ax (h.alloc o) W);clear h ay ax;go_enter func215,ntmps215;go_wp2_with fail;refine (ao _).mono ?_;rintro e eq ⟨rfl,G⟩;have aP:=hid G;clear G;go_wp2_with fail;refine (sU 3 m 6 g n aP W).mono ?_;rintro e w2 ⟨rfl,J⟩;have ac:=hid J;clear J;go_wp2_with fail;go_end0;exact ⟨rfl,ac⟩
theorem Ct {w0:World} {s:eK} {a:OA} (m g:Int) (ay:∀ y ∈ l,ha w0 R k y) (ax:eE w0 A a (Ln l) (fY l)) (h:eS w0 w R K s) (W:(g9 (eN k) l s).code.length<=1000000) :
 ew 217 #[eL R 0,em m,em g,.slice a (Ln l) I] w fun e r=>e = .returned (.tuple #[])/\eS w0 r R K (kG (g9 (eN k) l) m g s):=by
 have ao:=hid (Cr (I:=I) ay ax h W);clear h ay ax;go_enter func217,ntmps217;go_wp2_with fail;refine ao.mono ?_;rintro e eq ⟨rfl,G⟩;have aP:=hid G;clear G;go_wp2_with fail;refine (sU 2 m 13 g 0 aP W).mono ?_;rintro e w2 ⟨rfl,J⟩;have ac:=hid J;clear J;go_wp2_with fail;go_end0;exact ⟨rfl,ac⟩
theorem J2 {w0:World} {s:eK} (bn:ha w0 R k x) (c1:ha w0 R k y) (b:eE w0 A i (Ln x.args) (fY x.args)) (d:eE w0 A f (Ln y.args) (fY y.args)) (h:eS w0 w R K s) (W:(nk (eN k x) (eN k y) s).code.length<=1000000) :
 ew 271 #[eL R 0,.agg #[em x.op,em x.n,em x.m,em x.at_,.slice i (Ln x.args) a8],.agg #[em y.op,em y.n,em y.m,em y.at_,.slice f (Ln y.args) cy]] w fun e r=>e = .returned (.tuple #[])/\eS w0 r R K (nk (eN k x) (eN k y) s):=by
 have br:=np k x s;have Z:=np k y (fP 12 0 (eN k x s))
 have bg:(eN k y (fP 12 0 (eN k x s))).code.length+3<=1000000:=by simp only [nk,gI,fR,gR] at W;omega
 rw [gR] at Z
 have aO:Hid (eS w0 ((w.alloc (i6 x.op x.n x.m x.at_ i (Ln x.args) a8)).alloc (i6 y.op y.n y.m y.at_ f (Ln y.args) cy)) R ((w.heap.size+1,(i6 y.op y.n y.m y.at_ f (Ln y.args) cy)) :: K) s):=by
  have:=(h.alloc (i6 x.op x.n x.m x.at_ i (Ln x.args) a8)).box (i6 y.op y.n y.m y.at_ f (Ln y.args) cy);rw [qs] at this;exact this
 have aN:=hid (fun K s w=>bn A i a8 K s w b);have ab:=hid (fun K s w=>c1 A f cy K s w d);clear h bn c1 b d W;go_enter func271,ntmps271;go_wp2_with fail;refine (aN _ _ _ aO (by omega)).mono ?_;rintro e eq ⟨rfl,G⟩;have aP:=hid G;clear G;go_wp2_with fail;refine (pM 12 aP (by omega)).mono ?_;rintro e w2 ⟨rfl,J⟩;have ac:=hid J;clear J;obtain ⟨av,an,aD,aR,b3, -⟩:=fi (ac.has (gC _ (gC _ (gV ..))));go_wp2_with fail;refine (ab _ _ _ ac (by omega)).mono ?_;rintro e eC ⟨rfl,S⟩;have X:=hid S;clear S;clear av an aD aR b3;go_wp2_with fail;refine (jL 22 0 0 X (by omega)).mono ?_;rintro e eA ⟨rfl,a6⟩;have aa:=hid a6;clear a6;go_wp2_with fail;refine (pM 11 aa (by simp only [gI,gR,fR];omega)).mono ?_
 rintro e eJ ⟨rfl,ap⟩;have c:=hid ap;clear ap
 go_wp2_with (go_at_call 291;refine (pN (b:=eq.heap.size) (k:=(eN k x s).code.length) c (by simp) (by simp) (by simp only [gI,gR,fR];omega) (by simp only [gI,gR,fR];omega)).mono ?_;rintro e eZ ⟨rfl,aw⟩;have a:=hid aw;clear aw)
 refine (jL 1 0 0 a (by simp only [gI,gR,fR];omega)).mono ?_;rintro e eW ⟨rfl,ah⟩;have j:=hid ah;clear ah
 go_wp2_with (go_at_call 291;refine (pN (b:=eA.heap.size) (k:=(fy 22 0 0 (eN k y (fP 12 0 (eN k x s)))).code.length) j (by simp) (by simp) (by simp only [gI,gR,fR];omega) (by simp only [gI,gR,fR];omega)).mono ?_;rintro e aY ⟨rfl,q⟩;have g:=hid q;clear q)
 go_end0;exact ⟨rfl,g.tail.tail.tail.tail.tail⟩
theorem J3 {w0:World} {s:eK} (bn:ha w0 R k x) (c1:ha w0 R k y) (b:eE w0 A i (Ln x.args) (fY x.args)) (d:eE w0 A f (Ln y.args) (fY y.args)) (h:eS w0 w R K s) (W:(nn (eN k x) (eN k y) s).code.length<=1000000) :
 ew 272 #[eL R 0,.agg #[em x.op,em x.n,em x.m,em x.at_,.slice i (Ln x.args) a8],.agg #[em y.op,em y.n,em y.m,em y.at_,.slice f (Ln y.args) cy]] w fun e r=>e = .returned (.tuple #[])/\eS w0 r R K (nn (eN k x) (eN k y) s):=by
 have br:=np k x s;have Z:=np k y (g8 (eN k x s).code.length (fP 11 0 (fy 1 1 0 (fP 12 0 (eN k x s)))))
 have bg:(eN k y (g8 (eN k x s).code.length (fP 11 0 (fy 1 1 0 (fP 12 0 (eN k x s)))))).code.length+1<=1000000:=by simp only [nn,gI,fR,gR] at W;omega
 simp only [gI,fR,gR] at Z
 have aO:Hid (eS w0 ((w.alloc (i6 x.op x.n x.m x.at_ i (Ln x.args) a8)).alloc (i6 y.op y.n y.m y.at_ f (Ln y.args) cy)) R ((w.heap.size+1,(i6 y.op y.n y.m y.at_ f (Ln y.args) cy)) :: K) s):=by
  have:=(h.alloc (i6 x.op x.n x.m x.at_ i (Ln x.args) a8)).box (i6 y.op y.n y.m y.at_ f (Ln y.args) cy);rw [qs] at this;exact this
 have aN:=hid (fun K s w=>bn A i a8 K s w b);have ab:=hid (fun K s w=>c1 A f cy K s w d);clear h bn c1 b d W;go_enter func272,ntmps272;go_wp2_with fail;refine (aN _ _ _ aO (by omega)).mono ?_;rintro e eq ⟨rfl,G⟩;have aP:=hid G;clear G;go_wp2_with fail;refine (pM 12 aP (by omega)).mono ?_;rintro e w2 ⟨rfl,J⟩;have ac:=hid J;clear J;go_wp2_with fail;refine (jL 1 1 0 ac (by simp only [gI,gR,fR];omega)).mono ?_;rintro e eC ⟨rfl,S⟩;have X:=hid S;clear S;go_wp2_with fail;refine (pM 11 X (by simp only [gI,gR,fR];omega)).mono ?_;rintro e eA ⟨rfl,a6⟩;have aa:=hid a6;clear a6
 go_wp2_with (go_at_call 291;refine (pN (b:=eq.heap.size) (k:=(eN k x s).code.length) aa (by simp) (by simp) (by simp only [gI,gR,fR];omega) (by simp only [gI,gR,fR];omega)).mono ?_;rintro e eJ ⟨rfl,ap⟩;have c:=hid ap;clear ap;obtain ⟨av,an,aD,aR,b3, -⟩:=fi (c.has (gC _ (gC _ (gC _ (gC _ (gV ..)))))))
 refine (ab _ _ _ c (by omega)).mono ?_;rintro e eZ ⟨rfl,aw⟩;have a:=hid aw;clear aw;clear av an aD aR b3;go_wp2_with fail;refine (jL 22 0 0 a (by omega)).mono ?_;rintro e eW ⟨rfl,ah⟩;have j:=hid ah;clear ah
 go_wp2_with (go_at_call 291;refine (pN (b:=eC.heap.size) (k:=(fy 1 1 0 (fP 12 0 (eN k x s))).code.length) j (by simp) (by simp) (by simp only [gI,gR,fR];omega) (by simp only [gI,gR,fR];omega)).mono ?_;rintro e aY ⟨rfl,q⟩;have g:=hid q;clear q)
 go_end0;exact ⟨rfl,g.tail.tail.tail.tail.tail⟩
abbrev nC (a b c e:Int) (f:OA) (g:List eH) (h:Nat):Obj:=i6 a b c e f (Ln g) h
theorem kY {w0:World} (ax:eE w0 A t (Ln l) (fY l)) (i:Nat) (X:i<Ln l):∃ V C Y ak,t=some (ep V C)/\eE w0 A Y (eM l i).args.length (fY (eM l i).args)/\
 ∀ M,et w0 M->M.cell? ⟨V,C+i*5,none⟩=some (em (eM l i).op)/\M.cell? ⟨V,C+i*5+1,none⟩=some (em (eM l i).n)/\M.cell? ⟨V,C+i*5+2,none⟩=some (em (eM l i).m)/\M.cell? ⟨V,C+i*5+3,none⟩=some (em (eM l i).at_)/\M.cell? ⟨V,C+i*5+4,none⟩=some (.slice Y (eM l i).args.length ak):=by
 rw [rI l i X];obtain ⟨V,C,Y,ak,ab,Q⟩:=ax.nd i X;refine ⟨V,C,Y,ak,ab,Q.args',fun M L=>⟨?_,?_,?_,?_,?_⟩⟩
 . exact (L.cell (p:=(ep V _)) Q.lt).trans Q.c0
 . exact (L.cell (p:=(ep V _)) Q.lt).trans Q.c1
 . exact (L.cell (p:=(ep V _)) Q.lt).trans Q.c2
 . exact (L.cell (p:=(ep V _)) Q.lt).trans Q.c3
 . exact (L.cell (p:=(ep V _)) Q.lt).trans Q.c4
theorem kZ {w0:World} (h:∀ y ∈ l,ha w0 R k y) (i:Nat) (X:i<Ln l):ha w0 R k (eM l i):=by
 rw [rI l i X];exact h _ (fO X)
theorem J4 {w0:World} {s:eK} {p m g:Int} (ay:∀ y ∈ d,ha w0 R k y) (ax:eE w0 A t (Ln d) (fY d)) (h:eS w0 w R K s) (aa:p=1) (W:(fy 1 n 0 s).code.length<=1000000) :
 ew 216 #[eL R 0,.agg #[em p,em n,em m,em g,.slice t (Ln d) cp]] w fun e r=>e = .returned (.tuple #[])/\eS w0 r R K (fy 1 n 0 s):=by
 have aO:Hid (eS w0 (w.alloc (nC p n m g t d cp)) R ((w.heap.size,(nC p n m g t d cp)) :: K) s):=h.box (nC p n m g t d cp);subst aa
 have f:Ln s.code<=1000000:=by simp only [fR,iq] at W;omega
 clear h ay ax;go_enter func216,ntmps216;go_wp2_with fail;refine (jL 1 n 0 aO f).mono ?_;rintro e eq ⟨rfl,G⟩;have aP:=hid G;clear G;go_wp2_with fail;go_end0;exact ⟨rfl,aP.tail⟩
theorem J5 {w0:World} {s:eK} {p m g:Int} (ay:∀ y ∈ d,ha w0 R k y) (ax:eE w0 A t (Ln d) (fY d)) (h:eS w0 w R K s) (aa:p=2) (W:(fy 18 0 0 s).code.length<=1000000) :
 ew 216 #[eL R 0,.agg #[em p,em n,em m,em g,.slice t (Ln d) cp]] w fun e r=>e = .returned (.tuple #[])/\eS w0 r R K (fy 18 0 0 s):=by
 have aO:Hid (eS w0 (w.alloc (nC p n m g t d cp)) R ((w.heap.size,(nC p n m g t d cp)) :: K) s):=h.box (nC p n m g t d cp);subst aa
 have f:Ln s.code<=1000000:=by simp only [fR,iq] at W;omega
 clear h ay ax;go_enter func216,ntmps216;go_wp2_with fail;refine (jL 18 0 0 aO f).mono ?_;rintro e eq ⟨rfl,G⟩;have aP:=hid G;clear G;go_wp2_with fail;go_end0;exact ⟨rfl,aP.tail⟩
theorem J6 {w0:World} {s:eK} {p m g:Int} (ay:∀ y ∈ d,ha w0 R k y) (ax:eE w0 A t (Ln d) (fY d)) (h:eS w0 w R K s) (aa:p=16) (W:(fy 2 g 0 s).code.length<=1000000) :
 ew 216 #[eL R 0,.agg #[em p,em n,em m,em g,.slice t (Ln d) cp]] w fun e r=>e = .returned (.tuple #[])/\eS w0 r R K (fy 2 g 0 s):=by
 have aO:Hid (eS w0 (w.alloc (nC p n m g t d cp)) R ((w.heap.size,(nC p n m g t d cp)) :: K) s):=h.box (nC p n m g t d cp);subst aa
 have f:Ln s.code<=1000000:=by simp only [fR,iq] at W;omega
 clear h ay ax;go_enter func216,ntmps216;go_wp2_with fail;refine (jL 2 g 0 aO f).mono ?_;rintro e eq ⟨rfl,G⟩;have aP:=hid G;clear G;go_wp2_with fail;go_end0;exact ⟨rfl,aP.tail⟩
theorem J7 {w0:World} {s:eK} {p m g:Int} (ay:∀ y ∈ d,ha w0 R k y) (ax:eE w0 A t (Ln d) (fY d)) (h:eS w0 w R K s) (aa:p=3) (W:(kW 3 m ⟨4,g,0⟩ s).code.length<=1000000) :
 ew 216 #[eL R 0,.agg #[em p,em n,em m,em g,.slice t (Ln d) cp]] w fun e r=>e = .returned (.tuple #[])/\eS w0 r R K (kW 3 m ⟨4,g,0⟩ s):=by
 have aO:Hid (eS w0 (w.alloc (nC p n m g t d cp)) R ((w.heap.size,(nC p n m g t d cp)) :: K) s):=h.box (nC p n m g t d cp);subst aa
 have f:Ln s.code<=1000000:=by simp only [fR,iq] at W;omega
 clear h ay ax;go_enter func216,ntmps216;go_wp2_with fail;refine (sU 3 m 4 g 0 aO f).mono ?_;rintro e eq ⟨rfl,G⟩;have aP:=hid G;clear G;go_wp2_with fail;go_end0;exact ⟨rfl,aP.tail⟩
theorem J8 {w0:World} {s:eK} {p m g:Int} (ay:∀ y ∈ d,ha w0 R k y) (ax:eE w0 A t (Ln d) (fY d)) (h:eS w0 w R K s) (aa:p=4) (a2:Ln d=1) (W:(fy 7 0 0 (jj (eN k (eM d 0)) n m g s)).code.length<=1000000) :
 ew 216 #[eL R 0,.agg #[em p,em n,em m,em g,.slice t (Ln d) cp]] w fun e r=>e = .returned (.tuple #[])/\eS w0 r R K (fy 7 0 0 (jj (eN k (eM d 0)) n m g s)):=by
 have aO:Hid (eS w0 (w.alloc (nC p n m g t d cp)) R ((w.heap.size,(nC p n m g t d cp)) :: K) s):=h.box (nC p n m g t d cp);subst aa
 have f:(eN k (eM d 0) s).code.length+1<=1000000:=by simp only [fR,jj,iq] at W;omega
 obtain ⟨V,C,Y,ak,rfl,aT,a1⟩:=kY ax 0 (by omega);simp only [jq,kf] at a1;have z:=kZ ay 0 (by omega);generalize eM d 0=y at *;have ar:=hid aT;have ab:=hid z
 have aJ:Hid (∀ M u,eS w0 M R ((w.heap.size,(i6 4 n m g (some (ep V C)) (Ln d) cp)) :: K) u->M.cell? (ep w.heap.size 1)=some (em n)/\M.cell? (ep w.heap.size 2)=some (em m)/\M.cell? (ep w.heap.size 3)=some (em g)/\M.cell? (ep w.heap.size 4)=some (.slice (some (ep V C)) (Ln d) cp)/\M.cell? (ep V C)=some (em y.op)/\M.cell? ⟨V,C+1,none⟩=some (em y.n)/\M.cell? ⟨V,C+2,none⟩=some (em y.m)/\M.cell? ⟨V,C+3,none⟩=some (em y.at_)/\M.cell? ⟨V,C+4,none⟩=some (.slice Y (Ln y.args) ak)):=fun M u L=>by
  obtain ⟨av,an,aD,aR,b3, -⟩:=fi L.head;obtain ⟨D,aZ,b6,bk,bm⟩:=a1 M L.below;exact ⟨an,aD,aR,b3,D,aZ,b6,bk,bm⟩
 have aK:=hid aO.drew
 have bq:0<Ln d:=by omega
 clear h ay ax aT z a1 a2;go_enter func216,ntmps216;go_upto_region 13 with fail
 go_region_held (fun M=>M.cell? (ep w.heap.size 1)=some (em n)/\M.cell? (ep w.heap.size 2)=some (em m)/\M.cell? (ep w.heap.size 3)=some (em g)/\M.cell? (ep w.heap.size 4)=some (.slice (some (ep V C)) (Ln d) cp)/\M.cell? (ep V C)=some (em y.op)/\M.cell? ⟨V,C+1,none⟩=some (em y.n)/\M.cell? ⟨V,C+2,none⟩=some (em y.m)/\M.cell? ⟨V,C+3,none⟩=some (em y.at_)/\M.cell? ⟨V,C+4,none⟩=some (.slice Y (Ln y.args) ak)) (first | with_reducible exact aJ _ _ aO | with_reducible exact aJ _ _ aK | with_reducible exact aJ _ _ aP)
  (first
    | (go_at_call 215;refine (Cs n m g ab ar aK (by omega)).mono ?_;rintro e eq ⟨rfl,G⟩;have aP:=hid G;clear G))
 all_goals
  go_wp2_with fail;refine (jL 7 0 0 aP (by simp only [jj,iq];omega)).mono ?_;rintro e w2 ⟨rfl,J⟩;have ac:=hid J;clear J;go_wp2_with fail;go_end0;exact ⟨rfl,ac.tail⟩
theorem J9 {w0:World} {s:eK} {p m g:Int} (ay:∀ y ∈ d,ha w0 R k y) (ax:eE w0 A t (Ln d) (fY d)) (h:eS w0 w R K s) (aa:p=5) (W:(kG (g9 (eN k) d) m g s).code.length<=1000000) :
 ew 216 #[eL R 0,.agg #[em p,em n,em m,em g,.slice t (Ln d) cp]] w fun e r=>e = .returned (.tuple #[])/\eS w0 r R K (kG (g9 (eN k) d) m g s):=by
 have aO:Hid (eS w0 (w.alloc (nC p n m g t d cp)) R ((w.heap.size,(nC p n m g t d cp)) :: K) s):=h.box (nC p n m g t d cp);subst aa
 have f:(g9 (eN k) d s).code.length<=1000000:=by simp only [kG,iq] at W;omega
 have ao:=hid (Ct (I:=cp) m g ay ax aO f);clear h ay ax;go_enter func216,ntmps216;go_wp2_with fail;refine (ao).mono ?_;rintro e eq ⟨rfl,G⟩;have aP:=hid G;clear G;go_wp2_with fail;go_end0;exact ⟨rfl,aP.tail⟩
theorem Ka {w0:World} {s:eK} {p m g:Int} (ay:∀ y ∈ d,ha w0 R k y) (ax:eE w0 A t (Ln d) (fY d)) (h:eS w0 w R K s) (aa:p=6) (a2:Ln d=1) (W:(fy 9 0 0 (eN k (eM d 0) s)).code.length<=1000000) :
 ew 216 #[eL R 0,.agg #[em p,em n,em m,em g,.slice t (Ln d) cp]] w fun e r=>e = .returned (.tuple #[])/\eS w0 r R K (fy 9 0 0 (eN k (eM d 0) s)):=by
 have aO:Hid (eS w0 (w.alloc (nC p n m g t d cp)) R ((w.heap.size,(nC p n m g t d cp)) :: K) s):=h.box (nC p n m g t d cp);subst aa
 have f:(eN k (eM d 0) s).code.length<=1000000:=by simp only [fR] at W;omega
 obtain ⟨V,C,Y,ak,rfl,aT,a1⟩:=kY ax 0 (by omega);simp only [jq,kf] at a1;have z:=kZ ay 0 (by omega);generalize eM d 0=y at *;have ao:=hid (z A Y ak _ _ _ aT aO f);obtain ⟨D,aZ,b6,bk,bm⟩:=a1 _ h.below
 have F:V<w.heap.size:=by
  rcases iS V w.heap.size with q | q
  . exact q
  . simp [World.cell?,lK q] at D
 have bq:0<Ln d:=by omega
 clear h ay ax aT z a1 a2;go_enter func216,ntmps216;go_wp2_with fail;refine (ao).mono ?_;rintro e eq ⟨rfl,G⟩;have aP:=hid G;clear G;clear D aZ b6 bk bm;go_wp2_with fail;refine (jL 9 0 0 aP f).mono ?_;rintro e w2 ⟨rfl,J⟩;have ac:=hid J;clear J;go_wp2_with fail;go_end0;exact ⟨rfl,ac.tail⟩
theorem Kb {w0:World} {s:eK} {p m g:Int} (ay:∀ y ∈ d,ha w0 R k y) (ax:eE w0 A t (Ln d) (fY d)) (h:eS w0 w R K s) (aa:p=7) (a2:Ln d=2) (W:(nk (eN k (eM d 0)) (eN k (eM d 1)) s).code.length<=1000000) :
 ew 216 #[eL R 0,.agg #[em p,em n,em m,em g,.slice t (Ln d) cp]] w fun e r=>e = .returned (.tuple #[])/\eS w0 r R K (nk (eN k (eM d 0)) (eN k (eM d 1)) s):=by
 have aO:Hid (eS w0 (w.alloc (nC p n m g t d cp)) R ((w.heap.size,(nC p n m g t d cp)) :: K) s):=h.box (nC p n m g t d cp);subst aa;obtain ⟨V,C,Y,ak,rfl,aT,a1⟩:=kY ax 0 (by omega);obtain ⟨bA,cf,a5,au,j,ab,ez⟩:=kY ax 1 (by omega);cases j;simp only [jq,kf] at a1;simp only [rt] at ez;have z:=kZ ay 0 (by omega);have aS:=kZ ay 1 (by omega);generalize eM d 0=y at *;generalize eM d 1=z at *;have ao:=hid (J2 (a8:=ak) (cy:=au) z aS aT ab aO.drew W)
 have aJ:Hid (∀ M u,eS w0 M R ((w.heap.size,(i6 7 n m g (some (ep V C)) (Ln d) cp)) :: K) u->M.cell? (ep w.heap.size 4)=some (.slice (some (ep V C)) (Ln d) cp)/\M.cell? (ep V C)=some (em y.op)/\M.cell? ⟨V,C+1,none⟩=some (em y.n)/\M.cell? ⟨V,C+2,none⟩=some (em y.m)/\M.cell? ⟨V,C+3,none⟩=some (em y.at_)/\M.cell? ⟨V,C+4,none⟩=some (.slice Y (Ln y.args) ak)/\M.cell? ⟨V,C+5,none⟩=some (em z.op)/\M.cell? ⟨V,C+5+1,none⟩=some (em z.n)/\M.cell? ⟨V,C+5+2,none⟩=some (em z.m)/\M.cell? ⟨V,C+5+3,none⟩=some (em z.at_)/\M.cell? ⟨V,C+5+4,none⟩=some (.slice a5 (Ln z.args) au)):=fun M u L=>by
  obtain ⟨av,an,aD,aR,b3, -⟩:=fi L.head;obtain ⟨D,aZ,b6,bk,bm⟩:=a1 M L.below;obtain ⟨aF,T,X,bc,b9⟩:=ez M L.below;exact ⟨b3,D,aZ,b6,bk,bm,aF,T,X,bc,b9⟩
 have aK:=hid aO.drew
 have bq:1<Ln d:=by omega
 clear h ay ax aT ab z aS a1 ez a2;go_enter func216,ntmps216;go_upto_region 21 with fail
 go_region_held (fun M=>M.cell? (ep w.heap.size 4)=some (.slice (some (ep V C)) (Ln d) cp)/\M.cell? (ep V C)=some (em y.op)/\M.cell? ⟨V,C+1,none⟩=some (em y.n)/\M.cell? ⟨V,C+2,none⟩=some (em y.m)/\M.cell? ⟨V,C+3,none⟩=some (em y.at_)/\M.cell? ⟨V,C+4,none⟩=some (.slice Y (Ln y.args) ak)/\M.cell? ⟨V,C+5,none⟩=some (em z.op)/\M.cell? ⟨V,C+5+1,none⟩=some (em z.n)/\M.cell? ⟨V,C+5+2,none⟩=some (em z.m)/\M.cell? ⟨V,C+5+3,none⟩=some (em z.at_)/\M.cell? ⟨V,C+5+4,none⟩=some (.slice a5 (Ln z.args) au)) (first | with_reducible exact aJ _ _ aO | with_reducible exact aJ _ _ aK | with_reducible exact aJ _ _ aP)
  (first
    | (go_at_call 271;refine ao.mono ?_;rintro e eq ⟨rfl,G⟩;have aP:=hid G;clear G))
 all_goals
  go_wp2_with fail;go_end0;exact ⟨rfl,aP.tail⟩
theorem Kc {w0:World} {s:eK} {p m g:Int} (ay:∀ y ∈ d,ha w0 R k y) (ax:eE w0 A t (Ln d) (fY d)) (h:eS w0 w R K s) (aa:p=8) (a2:Ln d=2) (W:(nn (eN k (eM d 0)) (eN k (eM d 1)) s).code.length<=1000000) :
 ew 216 #[eL R 0,.agg #[em p,em n,em m,em g,.slice t (Ln d) cp]] w fun e r=>e = .returned (.tuple #[])/\eS w0 r R K (nn (eN k (eM d 0)) (eN k (eM d 1)) s):=by
 have aO:Hid (eS w0 (w.alloc (nC p n m g t d cp)) R ((w.heap.size,(nC p n m g t d cp)) :: K) s):=h.box (nC p n m g t d cp);subst aa;obtain ⟨V,C,Y,ak,rfl,aT,a1⟩:=kY ax 0 (by omega);obtain ⟨bA,cf,a5,au,j,ab,ez⟩:=kY ax 1 (by omega);cases j;simp only [jq,kf] at a1;simp only [rt] at ez;have z:=kZ ay 0 (by omega);have aS:=kZ ay 1 (by omega);generalize eM d 0=y at *;generalize eM d 1=z at *;have ao:=hid (J3 (a8:=ak) (cy:=au) z aS aT ab aO.drew W)
 have aJ:Hid (∀ M u,eS w0 M R ((w.heap.size,(i6 8 n m g (some (ep V C)) (Ln d) cp)) :: K) u->M.cell? (ep w.heap.size 4)=some (.slice (some (ep V C)) (Ln d) cp)/\M.cell? (ep V C)=some (em y.op)/\M.cell? ⟨V,C+1,none⟩=some (em y.n)/\M.cell? ⟨V,C+2,none⟩=some (em y.m)/\M.cell? ⟨V,C+3,none⟩=some (em y.at_)/\M.cell? ⟨V,C+4,none⟩=some (.slice Y (Ln y.args) ak)/\M.cell? ⟨V,C+5,none⟩=some (em z.op)/\M.cell? ⟨V,C+5+1,none⟩=some (em z.n)/\M.cell? ⟨V,C+5+2,none⟩=some (em z.m)/\M.cell? ⟨V,C+5+3,none⟩=some (em z.at_)/\M.cell? ⟨V,C+5+4,none⟩=some (.slice a5 (Ln z.args) au)):=fun M u L=>by
  obtain ⟨av,an,aD,aR,b3, -⟩:=fi L.head;obtain ⟨D,aZ,b6,bk,bm⟩:=a1 M L.below;obtain ⟨aF,T,X,bc,b9⟩:=ez M L.below;exact ⟨b3,D,aZ,b6,bk,bm,aF,T,X,bc,b9⟩
 have aK:=hid aO.drew
 have bq:1<Ln d:=by omega
 clear h ay ax aT ab z aS a1 ez a2;go_enter func216,ntmps216;go_upto_region 23 with fail
 go_region_held (fun M=>M.cell? (ep w.heap.size 4)=some (.slice (some (ep V C)) (Ln d) cp)/\M.cell? (ep V C)=some (em y.op)/\M.cell? ⟨V,C+1,none⟩=some (em y.n)/\M.cell? ⟨V,C+2,none⟩=some (em y.m)/\M.cell? ⟨V,C+3,none⟩=some (em y.at_)/\M.cell? ⟨V,C+4,none⟩=some (.slice Y (Ln y.args) ak)/\M.cell? ⟨V,C+5,none⟩=some (em z.op)/\M.cell? ⟨V,C+5+1,none⟩=some (em z.n)/\M.cell? ⟨V,C+5+2,none⟩=some (em z.m)/\M.cell? ⟨V,C+5+3,none⟩=some (em z.at_)/\M.cell? ⟨V,C+5+4,none⟩=some (.slice a5 (Ln z.args) au)) (first | with_reducible exact aJ _ _ aO | with_reducible exact aJ _ _ aK | with_reducible exact aJ _ _ aP)
  (first
    | (go_at_call 272;refine ao.mono ?_;rintro e eq ⟨rfl,G⟩;have aP:=hid G;clear G))
 all_goals
  go_wp2_with fail;go_end0;exact ⟨rfl,aP.tail⟩
theorem Kd {w0:World} {s:eK} {p m g:Int} (ay:∀ y ∈ d,ha w0 R k y) (ax:eE w0 A t (Ln d) (fY d)) (h:eS w0 w R K s) (G:p≠1) (J:p≠2) (S:p≠16) (a6:p≠3) (ap:p≠4) (aw:p≠5) (ah:p≠6) (q:p≠7) (j:p≠8) (W:(fy 10 p 0 (g9 (eN k) d s)).code.length<=1000000) :
 ew 216 #[eL R 0,.agg #[em p,em n,em m,em g,.slice t (Ln d) cp]] w fun e r=>e = .returned (.tuple #[])/\eS w0 r R K (fy 10 p 0 (g9 (eN k) d s)):=by
 have aO:Hid (eS w0 (w.alloc (nC p n m g t d cp)) R ((w.heap.size,(nC p n m g t d cp)) :: K) s):=h.box (nC p n m g t d cp)
 have f:(g9 (eN k) d s).code.length<=1000000:=by simp only [fR] at W;omega
 have ao:=hid (Cr (I:=cp) ay ax aO f);clear h ay ax;go_enter func216,ntmps216;go_wp2_with fail;refine (ao).mono ?_;rintro e c ⟨rfl,ab⟩;have a:=hid ab;clear ab;obtain ⟨av,an,aD,aR,b3, -⟩:=fi a.head;go_wp2_with fail;refine (jL 10 p 0 a f).mono ?_;rintro e i ⟨rfl,F⟩;have b:=hid F;clear F;go_wp2_with fail;go_end0;exact ⟨rfl,b.tail⟩
def uT (f:eH->eK->eK) (p n m g:Int) (d:List eH) (s:eK):eK:=
 if p=1 then fy 1 n 0 s
 else if p=2 then fy 18 0 0 s
 else if p=16 then fy 2 g 0 s
 else if p=3 then kW 3 m ⟨4,g,0⟩ s
 else if p=4 then fy 7 0 0 (jj (f (eM d 0)) n m g s)
 else if p=5 then kG (g9 f d) m g s
 else if p=6 then fy 9 0 0 (f (eM d 0) s)
 else if p=7 then nk (f (eM d 0)) (f (eM d 1)) s
 else if p=8 then nn (f (eM d 0)) (f (eM d 1)) s
 else fy 10 p 0 (g9 f d s)
theorem x0 (k:Nat) (p n m g:Int) (d:List eH) (s:eK):eN (k+1) ⟨p,n,m,g,d⟩ s=uT (eN k) p n m g d s:=rfl
theorem Cu {m g:Int} (h:fI c ⟨4,n,m,g,d⟩=true):Ln d=1:=by
 simp [fI,eH.op,eH.args] at h;exact of_decide_eq_true h.1
theorem x6 {p m g:Int} (h:fI c ⟨p,n,m,g,d⟩=true) (G:p≠1) (S:p≠16) (a6:p≠3) (ap:p≠4) (aw:p≠5):(Ln d:Int)=lr p:=by
 simp [fI,eH.op,eH.args,G,S,a6,ap,aw] at h;exact of_decide_eq_true h.1
theorem Cv {w0:World} (Q:fI c x=true) (ay:∀ y ∈ x.args,ha w0 R k y):ha w0 R (k+1) x:=by
 obtain ⟨p,n,m,g,d⟩:=x;intro A t cp K s w ax h W;rw [x0] at W ⊢;unfold uT at W ⊢;simp only [eH.op,eH.n,eH.m,eH.at_,eH.args] at ax ay ⊢
 by_cases aw:p=1
 . rw [if_pos aw] at W ⊢;exact J4 ay ax h aw W
 rw [if_neg aw] at W ⊢
 by_cases aE:p=2
 . rw [if_pos aE] at W ⊢;exact J5 ay ax h aE W
 rw [if_neg aE] at W ⊢
 by_cases b4:p=16
 . rw [if_pos b4] at W ⊢;exact J6 ay ax h b4 W
 rw [if_neg b4] at W ⊢
 by_cases b8:p=3
 . rw [if_pos b8] at W ⊢;exact J7 ay ax h b8 W
 rw [if_neg b8] at W ⊢
 by_cases u:p=4
 . rw [if_pos u] at W ⊢
   subst u;exact J8 ay ax h rfl (Cu Q) W
 rw [if_neg u] at W ⊢
 by_cases aP:p=5
 . rw [if_pos aP] at W ⊢;exact J9 ay ax h aP W
 rw [if_neg aP] at W ⊢;have a2:=x6 Q aw b4 b8 u aP;unfold lr at a2;rw [if_neg aE] at a2
 by_cases a:p=6
 . rw [if_pos a] at W ⊢
   rw [if_pos a] at a2;exact Ka ay ax h a (by omega) W
 rw [if_neg a] at W a2 ⊢
 by_cases e:p=7
 . rw [if_pos e] at W ⊢
   rw [if_pos (by omega)] at a2;exact Kb ay ax h e (by omega) W
 rw [if_neg e] at W ⊢
 by_cases f:p=8
 . rw [if_pos f] at W ⊢
   rw [if_pos (by omega)] at a2;exact Kc ay ax h f (by omega) W
 rw [if_neg f] at W ⊢;exact Kd ay ax h aw aE b4 b8 u aP a e f W
theorem Cw {w0:World}:∀ (k:Nat) (x:eH),fI c x=true->gW c k x.args=true->ha w0 R (k+1) x
 | 0,x,G,J=>Cv G (fun y z=>by
  simp only [gW,decide_eq_true_eq] at J;rw [ii J] at z
  simp at z)
 | k + 1,x,G,J=>Cv G (fun y z=>by
     simp only [gW,hJ,fs] at J
     exact Cw k y (J y z).1 (J y z).2)
abbrev aC (a b c e:Int) (f:OA) (g:List eH) (h:Nat) (i:OA) (j:List eB) (k:Nat) (l:OA) (m:List eB) (n:Nat):Obj:=fV a b c e f (Ln g) h i (Ln j) k l (Ln m) n
def nW (w0:World) (R k:Nat) (y:eB):Prop:=∀ (A:Nat->Prop) (Y:OA) (ak:Nat) (a5:OA) (au:Nat) (a7:OA) (aI:Nat) (K:List (Nat × Obj)) (s:eK) (w:World),eE w0 A Y (Ln y.args) (fY y.args)->eE w0 A a5 (Ln y.body) (f9 y.body)->eE w0 A a7 (Ln y.other) (f9 y.other)->eS w0 w R K s->(gB k y s).code.length<=1000000->
 ew 172 #[eL R 0,.agg #[em y.op,em y.n,em y.m,em y.at_,.slice Y (Ln y.args) ak,.slice a5 (Ln y.body) au,.slice a7 (Ln y.other) aI]] w fun e r=>e = .returned (.tuple #[])/\eS w0 r R K (gB k y s)
theorem sV {w0:World} {s:eK} {l:List eB} {a:OA} (ay:∀ y ∈ l,nW w0 R k y) (ax:eE w0 A a (Ln l) (f9 l)) (h:eS w0 w R K s) (W:(fZ (gB k) l s).code.length<=1000000) :
 ew 130 #[eL R 0,.slice a (Ln l) I] w fun e r=>e = .returned (.tuple #[])/\eS w0 r R K (fZ (gB k) l s):=by
 have bC:=ax.bound;have aK:=hid ax;have aO:=hid h;have aF:=hid ay;have z:=hid (fun j=>iC (JZ (gB k) (qN k) l s j) W);clear ax h ay W;go_enter func130,ntmps130;go_wp2_with fail
 go_loopw [8] (fun i wr=>∃ j:Nat,j<=Ln l/\i=em j/\eS w0 wr R K (fZ (gB k) (l.take j) s)) (fun i _=>Ln l - (intOf i).toNat)
 case atStart=>exact ⟨0,eY _,rfl,aO⟩
 case round=>
  obtain ⟨j,ac,rfl,aq⟩:=hrel;have aP:=hid aq;clear aq
  by_cases a0:j<Ln l
  . obtain ⟨V,C,Y,ak,a5,au,a7,aI,rfl,Q⟩:=aK.ac j a0
    have ap:V<wr.heap.size:=gl Q.lt aP.below.size;have af:=(aP.below.cell (p:=⟨V,C+j*7,none⟩) Q.lt).trans Q.c0;have E:=(aP.below.cell (p:=⟨V,C+j*7+1,none⟩) Q.lt).trans Q.c1;have ae:=(aP.below.cell (p:=⟨V,C+j*7+2,none⟩) Q.lt).trans Q.c2;have H:=(aP.below.cell (p:=⟨V,C+j*7+3,none⟩) Q.lt).trans Q.c3;have aj:=(aP.below.cell (p:=⟨V,C+j*7+4,none⟩) Q.lt).trans Q.c4;have al:=(aP.below.cell (p:=⟨V,C+j*7+5,none⟩) Q.lt).trans Q.c5;have O:=(aP.below.cell (p:=⟨V,C+j*7+6,none⟩) Q.lt).trans Q.c6;have ar:=hid (⟨Q.args',Q.body',Q.other'⟩:_/\_/\_);have ab:=hid (aF l[j] (fO a0));have P:=hid (fun h=>JW (gB k) l s j a0 h);have aJ:=hid (fun h=>JX (gB k) l s j h);have v:=hid (z (j+1))
    clear Q;generalize l[j]=x at *;have ad:=hid (aP.box (fV x.op x.n x.m x.at_ Y (Ln x.args) ak a5 (Ln x.body) au a7 (Ln x.other) aI));go_wp2_with fail;refine (Cn ad).mono ?_
    cases ag:kX (fZ (gB k) (l.take j) s) with
    | true=>
      rintro e eC ⟨rfl,rfl⟩;have m:=hid (aJ ag);clear ag;go_wp2_with fail
      go_returns
      exact ⟨rfl,by rw [m.out];exact ad.tail⟩
    | false=>
      rintro e eC ⟨rfl,rfl⟩;have a4:=hid (P ag);rw [a4.out] at v;clear ag;go_wp2_with fail;refine (ab A Y ak a5 au a7 aI K _ _ ar.1 ar.2.1 ar.2.2 ad.tail v).mono ?_;rintro e eA ⟨rfl,a6⟩;have aa:=hid a6;clear a6;go_wp2_with fail;go_roundw
      case rel=>exact ⟨j+1,by omega,by go_num,by rw [a4.out];exact aa⟩
      case measure=>simp [intOf];omega
  . obtain rfl:j=Ln l:=by omega
    rw [iA] at aP;go_wp2_with fail;go_end0;exact ⟨rfl,aP⟩
theorem Ke {w0:World} {s:eK} {p m g:Int} (ay:∀ y ∈ d,ha w0 R 6 y) (ax:eE w0 A Y (Ln d) (fY d)) (h:eS w0 w R K s) (a2:Ln d=1) (a8:m = -1) (W:(fy 3 g 0 (eN 6 (eM d 0) s)).code.length<=1000000) :
 ew 214 #[eL R 0,.agg #[em p,em n,em m,em g,.slice Y (Ln d) ak,.slice a5 (Ln U) au,.slice a7 (Ln N) aI]] w fun e r=>e = .returned (.tuple #[])/\eS w0 r R K (fy 3 g 0 (eN 6 (eM d 0) s)):=by
 subst a8;have aO:Hid (eS w0 (w.alloc (fV p n (-1) g Y (Ln d) ak a5 (Ln U) au a7 (Ln N) aI)) R ((w.heap.size,(fV p n (-1) g Y (Ln d) ak a5 (Ln U) au a7 (Ln N) aI)) :: K) s):=h.box (fV p n (-1) g Y (Ln d) ak a5 (Ln U) au a7 (Ln N) aI)
 have f:(eN 6 (eM d 0) s).code.length<=1000000:=by simp only [fR,iq] at W;omega
 obtain ⟨V,C,t,aA,rfl,aT,a1⟩:=kY ax 0 (by omega);simp only [jq,kf] at a1;have z:=kZ ay 0 (by omega);generalize eM d 0=y at *;obtain ⟨D,aZ,b6,bk,bm⟩:=a1 _ h.below
 have F:V<w.heap.size:=by
  rcases iS V w.heap.size with q | q
  . exact q
  . simp [World.cell?,lK q] at D
 have bq:0<Ln d:=by omega
 have ao:=hid (z A t aA _ _ _ aT aO f);clear h ay ax aT z a1 a2;go_enter func214,ntmps214;go_wp2_with fail;refine (ao).mono ?_;rintro e eq ⟨rfl,G⟩;have aP:=hid G;clear G;obtain ⟨av,an,aD,aR,b3,q5,q6, -⟩:=f6 aP.head;clear D aZ b6 bk bm;go_wp2_with fail;refine (jL 3 g 0 aP f).mono ?_;rintro e w2 ⟨rfl,J⟩;have ac:=hid J;clear J;go_wp2_with fail
 go_returns
 exact ⟨rfl,ac.tail⟩
theorem Kf {w0:World} {s:eK} {p m g:Int} (ay:∀ y ∈ d,ha w0 R 6 y) (ax:eE w0 A Y (Ln d) (fY d)) (h:eS w0 w R K s) (a2:Ln d=1) (a8:m≠-1) (W:(kW 3 m ⟨5,g,0⟩ (eN 6 (eM d 0) s)).code.length<=1000000) :
 ew 214 #[eL R 0,.agg #[em p,em n,em m,em g,.slice Y (Ln d) ak,.slice a5 (Ln U) au,.slice a7 (Ln N) aI]] w fun e r=>e = .returned (.tuple #[])/\eS w0 r R K (kW 3 m ⟨5,g,0⟩ (eN 6 (eM d 0) s)):=by
 have aO:Hid (eS w0 (w.alloc (aC p n m g Y d ak a5 U au a7 N aI)) R ((w.heap.size,(aC p n m g Y d ak a5 U au a7 N aI)) :: K) s):=h.box (aC p n m g Y d ak a5 U au a7 N aI)
 have f:(eN 6 (eM d 0) s).code.length<=1000000:=by simp only [fR,iq] at W;omega
 obtain ⟨V,C,t,aA,rfl,aT,a1⟩:=kY ax 0 (by omega);simp only [jq,kf] at a1;have z:=kZ ay 0 (by omega);generalize eM d 0=y at *;obtain ⟨D,aZ,b6,bk,bm⟩:=a1 _ h.below
 have F:V<w.heap.size:=by
  rcases iS V w.heap.size with q | q
  . exact q
  . simp [World.cell?,lK q] at D
 have bq:0<Ln d:=by omega
 have ao:=hid (z A t aA _ _ _ aT aO f);clear h ay ax aT z a1 a2;go_enter func214,ntmps214;go_wp2_with fail;refine (ao).mono ?_;rintro e eq ⟨rfl,G⟩;have aP:=hid G;clear G;obtain ⟨av,an,aD,aR,b3,q5,q6, -⟩:=f6 aP.head;clear D aZ b6 bk bm;go_wp2_with fail;refine (sU 3 m 5 g 0 aP f).mono ?_;rintro e w2 ⟨rfl,J⟩;have ac:=hid J;clear J;go_wp2_with fail;go_end0;exact ⟨rfl,ac.tail⟩
theorem Kg {w0:World} {s:eK} {p m g:Int} (ay:∀ y ∈ d,ha w0 R 6 y) (ax:eE w0 A Y (Ln d) (fY d)) (h:eS w0 w R K s) (a2:Ln d=1) (ab:∀ y ∈ U,nW w0 R k y) (b:eE w0 A a5 (Ln U) (f9 U)) (W:(g8 (eN 6 (eM d 0) s).code.length (fZ (gB k) U (fP 12 0 (eN 6 (eM d 0) s)))).code.length<=1000000) :
 ew 218 #[eL R 0,.agg #[em p,em n,em m,em g,.slice Y (Ln d) ak,.slice a5 (Ln U) au,.slice a7 0 aI]] w fun e r=>e = .returned (.tuple #[])/\eS w0 r R K (g8 (eN 6 (eM d 0) s).code.length (fZ (gB k) U (fP 12 0 (eN 6 (eM d 0) s)))):=by
 have aO:Hid (eS w0 (w.alloc (fV p n m g Y (Ln d) ak a5 (Ln U) au a7 0 aI)) R ((w.heap.size,(fV p n m g Y (Ln d) ak a5 (Ln U) au a7 0 aI)) :: K) s):=h.box (fV p n m g Y (Ln d) ak a5 (Ln U) au a7 0 aI);have br:=nV (qN k) U (fP 12 0 (eN 6 (eM d 0) s));rw [gR] at br
 have b2:(fZ (gB k) U (fP 12 0 (eN 6 (eM d 0) s))).code.length<=1000000:=by simp only [gI] at W;omega
 obtain ⟨V,C,t,aA,rfl,aT,a1⟩:=kY ax 0 (by omega);simp only [jq,kf] at a1;have z:=kZ ay 0 (by omega);generalize eM d 0=y at *;obtain ⟨D,aZ,b6,bk,bm⟩:=a1 _ h.below
 have F:V<w.heap.size:=by
  rcases iS V w.heap.size with q | q
  . exact q
  . simp [World.cell?,lK q] at D
 have bq:0<Ln d:=by omega
 have ao:=hid (z A t aA _ _ _ aT aO (by omega));have ad:=hid (fun (K:List (Nat × Obj)) (s:eK) (w:World)=>sV (w:=w) (K:=K) (s:=s) (I:=au) ab b);clear h ay ax aT z a1 a2 ab b;go_enter func218,ntmps218;go_wp2_with fail;refine (ao).mono ?_;rintro e eq ⟨rfl,G⟩;have aP:=hid G;clear G;clear D aZ b6 bk bm;go_wp2_with fail;refine (pM 12 aP (by omega)).mono ?_;rintro e w2 ⟨rfl,J⟩;have ac:=hid J;clear J;obtain ⟨av,an,aD,aR,b3,q5,q6, -⟩:=f6 (ac.has (gC _ (gC _ (gV ..))));go_wp2_with fail;refine (ad _ _ _ ac b2).mono ?_;rintro e eC ⟨rfl,S⟩;have X:=hid S;clear S;clear av an aD aR b3 q5 q6;obtain ⟨av,an,aD,aR,b3,q5,q6, -⟩:=f6 (X.has (gC _ (gC _ (gV ..))))
 go_wp2_with (go_at_call 291;refine (pN (b:=eq.heap.size) (k:=(eN 6 y s).code.length) X (by simp) (by simp) (by omega) b2).mono ?_;rintro e eA ⟨rfl,a6⟩;have aa:=hid a6;clear a6)
 go_returns
 exact ⟨rfl,aa.tail.tail.tail⟩
theorem Kh {w0:World} {s:eK} {p m g:Int} (ay:∀ y ∈ d,ha w0 R 6 y) (ax:eE w0 A Y (Ln d) (fY d)) (h:eS w0 w R K s) (a2:Ln d=1) (ab:∀ y ∈ U,nW w0 R k y) (b:eE w0 A a5 (Ln U) (f9 U)) (aQ:∀ y ∈ N,nW w0 R k y) (f:eE w0 A a7 (Ln N) (f9 N)) (aV:Ln N≠0) (W:(g8 (fZ (gB k) U (fP 12 0 (eN 6 (eM d 0) s))).code.length (fZ (gB k) N (g8 (eN 6 (eM d 0) s).code.length (fP 11 0 (fZ (gB k) U (fP 12 0 (eN 6 (eM d 0) s))))))).code.length<=1000000) :
 ew 218 #[eL R 0,.agg #[em p,em n,em m,em g,.slice Y (Ln d) ak,.slice a5 (Ln U) au,.slice a7 (Ln N) aI]] w fun e r=>e = .returned (.tuple #[])/\eS w0 r R K (g8 (fZ (gB k) U (fP 12 0 (eN 6 (eM d 0) s))).code.length (fZ (gB k) N (g8 (eN 6 (eM d 0) s).code.length (fP 11 0 (fZ (gB k) U (fP 12 0 (eN 6 (eM d 0) s))))))):=by
 have aO:Hid (eS w0 (w.alloc (aC p n m g Y d ak a5 U au a7 N aI)) R ((w.heap.size,(aC p n m g Y d ak a5 U au a7 N aI)) :: K) s):=h.box (aC p n m g Y d ak a5 U au a7 N aI);have br:=nV (qN k) U (fP 12 0 (eN 6 (eM d 0) s));have Z:=nV (qN k) N (g8 (eN 6 (eM d 0) s).code.length (fP 11 0 (fZ (gB k) U (fP 12 0 (eN 6 (eM d 0) s)))));rw [gR] at br;rw [gI,gR] at Z
 have bi:(fZ (gB k) N (g8 (eN 6 (eM d 0) s).code.length (fP 11 0 (fZ (gB k) U (fP 12 0 (eN 6 (eM d 0) s)))))).code.length<=1000000:=by simp only [gI] at W;omega
 have b2:(fZ (gB k) U (fP 12 0 (eN 6 (eM d 0) s))).code.length+1<=1000000:=by omega
 obtain ⟨V,C,t,aA,rfl,aT,a1⟩:=kY ax 0 (by omega);simp only [jq,kf] at a1;have z:=kZ ay 0 (by omega);generalize eM d 0=y at *;obtain ⟨D,aZ,b6,bk,bm⟩:=a1 _ h.below
 have F:V<w.heap.size:=by
  rcases iS V w.heap.size with q | q
  . exact q
  . simp [World.cell?,lK q] at D
 have bq:0<Ln d:=by omega
 have bw:=f.bound;have ao:=hid (z A t aA _ _ _ aT aO (by omega));have ad:=hid (fun (K:List (Nat × Obj)) (s:eK) (w:World)=>sV (w:=w) (K:=K) (s:=s) (I:=au) ab b);have aG:=hid (fun (K:List (Nat × Obj)) (s:eK) (w:World)=>sV (w:=w) (K:=K) (s:=s) (I:=aI) aQ f);clear h ay ax aT z a1 a2 ab b aQ f;go_enter func218,ntmps218;go_wp2_with fail;refine (ao).mono ?_;rintro e eq ⟨rfl,G⟩;have aP:=hid G;clear G;clear D aZ b6 bk bm;go_wp2_with fail;refine (pM 12 aP (by omega)).mono ?_;rintro e w2 ⟨rfl,J⟩;have ac:=hid J;clear J;obtain ⟨av,an,aD,aR,b3,q5,q6, -⟩:=f6 (ac.has (gC _ (gC _ (gV ..))));go_wp2_with fail;refine (ad _ _ _ ac (by omega)).mono ?_;rintro e eC ⟨rfl,S⟩;have X:=hid S;clear S;clear av an aD aR b3 q5 q6
 obtain ⟨av,an,aD,aR,b3,q5,q6, -⟩:=f6 (X.has (gC _ (gC _ (gV ..))));go_wp2_with fail;refine (pM 11 X (by omega)).mono ?_;rintro e eA ⟨rfl,a6⟩;have aa:=hid a6;clear a6;clear av an aD aR b3 q5 q6
 go_wp2_with (go_at_call 291;refine (pN (b:=eq.heap.size) (k:=(eN 6 y s).code.length) aa (by simp) (by simp) (by simp only [gI,gR,fR,iq];omega) (by simp only [gI,gR,fR,iq];omega)).mono ?_;rintro e eJ ⟨rfl,ap⟩;have c:=hid ap;clear ap;obtain ⟨av,an,aD,aR,b3,q5,q6, -⟩:=f6 (c.has (gC _ (gC _ (gC _ (gC _ (gV ..)))))))
 refine (aG _ _ _ c bi).mono ?_;rintro e eZ ⟨rfl,aw⟩;have a:=hid aw;clear aw;clear av an aD aR b3 q5 q6
 go_wp2_with (go_at_call 291;refine (pN (b:=eC.heap.size) (k:=(fZ (gB k) U (fP 12 0 (eN 6 y s))).code.length) a (by simp) (by simp) (by omega) bi).mono ?_;rintro e eW ⟨rfl,ah⟩;have j:=hid ah;clear ah)
 go_end0;exact ⟨rfl,j.tail.tail.tail.tail.tail⟩
theorem Ki {w0:World} {s:eK} {p m g:Int} (ay:∀ y ∈ d,ha w0 R 6 y) (ax:eE w0 A Y (Ln d) (fY d)) (h:eS w0 w R K s) (a2:Ln d=1) (ab:∀ y ∈ U,nW w0 R k y) (b:eE w0 A a5 (Ln U) (f9 U)) (W:(g8 (eN 6 (eM d 0) s).code.length (fP 11 (Ln s.code) (fZ (gB k) U (fy 16 0 0 (fP 12 0 (eN 6 (eM d 0) s)))))).code.length<=1000000) :
 ew 219 #[eL R 0,.agg #[em p,em n,em m,em g,.slice Y (Ln d) ak,.slice a5 (Ln U) au,.slice a7 (Ln N) aI]] w fun e r=>e = .returned (.tuple #[])/\eS w0 r R K (g8 (eN 6 (eM d 0) s).code.length (fP 11 (Ln s.code) (fZ (gB k) U (fy 16 0 0 (fP 12 0 (eN 6 (eM d 0) s)))))):=by
 have aO:Hid (eS w0 (w.alloc (aC p n m g Y d ak a5 U au a7 N aI)) R ((w.heap.size,(aC p n m g Y d ak a5 U au a7 N aI)) :: K) s):=h.box (aC p n m g Y d ak a5 U au a7 N aI);have bF:=np 6 (eM d 0) s;have br:=nV (qN k) U (fy 16 0 0 (fP 12 0 (eN 6 (eM d 0) s)));rw [fR,gR] at br
 have b2:(fZ (gB k) U (fy 16 0 0 (fP 12 0 (eN 6 (eM d 0) s)))).code.length+1<=1000000:=by simp only [gI,gR] at W;omega
 obtain ⟨V,C,t,aA,rfl,aT,a1⟩:=kY ax 0 (by omega);simp only [jq,kf] at a1;have z:=kZ ay 0 (by omega);generalize eM d 0=y at *;obtain ⟨D,aZ,b6,bk,bm⟩:=a1 _ h.below
 have F:V<w.heap.size:=by
  rcases iS V w.heap.size with q | q
  . exact q
  . simp [World.cell?,lK q] at D
 have bq:0<Ln d:=by omega
 have aH:=hid (rJ aO);have ao:=hid (z A t aA _ _ _ aT aO (by omega));have ad:=hid (fun (K:List (Nat × Obj)) (s:eK) (w:World)=>sV (w:=w) (K:=K) (s:=s) (I:=au) ab b);clear h ay ax aT z a1 a2 ab b;go_enter func219,ntmps219;go_wp2_with fail;refine aH.mono ?_;rintro e bd ⟨rfl,rfl⟩;go_wp2_with fail;refine (ao).mono ?_;rintro e eq ⟨rfl,G⟩;have aP:=hid G;clear G;clear D aZ b6 bk bm;go_wp2_with fail;refine (pM 12 aP (by omega)).mono ?_;rintro e w2 ⟨rfl,J⟩;have ac:=hid J;clear J;go_wp2_with fail;refine (jL 16 0 0 ac (by simp only [gI,gR,fR,iq];omega)).mono ?_;rintro e eC ⟨rfl,S⟩;have X:=hid S;clear S;obtain ⟨av,an,aD,aR,b3,q5,q6, -⟩:=f6 (X.has (gC _ (gC _ (gV ..))));go_wp2_with fail
 refine (ad _ _ _ X (by omega)).mono ?_;rintro e eA ⟨rfl,a6⟩;have aa:=hid a6;clear a6;clear av an aD aR b3 q5 q6;go_wp2_with fail;refine (Cp 11 (Ln s.code) aa (by omega)).mono ?_;rintro e eJ ⟨rfl,ap⟩;have c:=hid ap;clear ap
 go_wp2_with (go_at_call 291;refine (pN (b:=eq.heap.size) (k:=(eN 6 y s).code.length) c (by simp) (by simp) (by simp only [gI,gR,fR,iq];omega) (by simp only [gI,gR,fR,iq];omega)).mono ?_;rintro e eZ ⟨rfl,aw⟩;have a:=hid aw;clear aw)
 go_end0;exact ⟨rfl,a.tail.tail.tail⟩
theorem Kj {w0:World} {m g:Int} {s':eK} (ao:Hid (ew 214 #[eL R 0,.agg #[em 1,em n,em m,em g,.slice Y (Ln d) ak,.slice a5 (Ln U) au,.slice a7 (Ln N) aI]] (w.alloc (fV 1 n m g Y (Ln d) ak a5 (Ln U) au a7 (Ln N) aI)) fun e r=>e = .returned (.tuple #[])/\eS w0 r R ((w.heap.size,(fV 1 n m g Y (Ln d) ak a5 (Ln U) au a7 (Ln N) aI)) :: K) s')) :
 ew 172 #[eL R 0,.agg #[em 1,em n,em m,em g,.slice Y (Ln d) ak,.slice a5 (Ln U) au,.slice a7 (Ln N) aI]] w fun e r=>e = .returned (.tuple #[])/\eS w0 r R K s':=by
 go_enter func172,ntmps172;go_wp2_with fail;refine (ao).mono ?_;rintro e eq ⟨rfl,G⟩;have aP:=hid G;clear G;go_wp2_with fail;go_end0;exact ⟨rfl,aP.tail⟩
theorem Kk {w0:World} {m g:Int} {s':eK} (ao:Hid (ew 218 #[eL R 0,.agg #[em 4,em n,em m,em g,.slice Y (Ln d) ak,.slice a5 (Ln U) au,.slice a7 (Ln N) aI]] (w.alloc (fV 4 n m g Y (Ln d) ak a5 (Ln U) au a7 (Ln N) aI)) fun e r=>e = .returned (.tuple #[])/\eS w0 r R ((w.heap.size,(fV 4 n m g Y (Ln d) ak a5 (Ln U) au a7 (Ln N) aI)) :: K) s')) :
 ew 172 #[eL R 0,.agg #[em 4,em n,em m,em g,.slice Y (Ln d) ak,.slice a5 (Ln U) au,.slice a7 (Ln N) aI]] w fun e r=>e = .returned (.tuple #[])/\eS w0 r R K s':=by
 go_enter func172,ntmps172;go_wp2_with fail;refine (ao).mono ?_;rintro e eq ⟨rfl,G⟩;have aP:=hid G;clear G;go_wp2_with fail;go_end0;exact ⟨rfl,aP.tail⟩
theorem Kl {w0:World} {m g:Int} {s':eK} (ao:Hid (ew 219 #[eL R 0,.agg #[em 5,em n,em m,em g,.slice Y (Ln d) ak,.slice a5 (Ln U) au,.slice a7 (Ln N) aI]] (w.alloc (fV 5 n m g Y (Ln d) ak a5 (Ln U) au a7 (Ln N) aI)) fun e r=>e = .returned (.tuple #[])/\eS w0 r R ((w.heap.size,(fV 5 n m g Y (Ln d) ak a5 (Ln U) au a7 (Ln N) aI)) :: K) s')) :
 ew 172 #[eL R 0,.agg #[em 5,em n,em m,em g,.slice Y (Ln d) ak,.slice a5 (Ln U) au,.slice a7 (Ln N) aI]] w fun e r=>e = .returned (.tuple #[])/\eS w0 r R K s':=by
 go_enter func172,ntmps172;go_wp2_with fail;refine (ao).mono ?_;rintro e eq ⟨rfl,G⟩;have aP:=hid G;clear G;go_wp2_with fail;go_end0;exact ⟨rfl,aP.tail⟩
theorem Km {w0:World} {s:eK} {m g:Int} (ay:∀ y ∈ d,ha w0 R 6 y) (ax:eE w0 A Y (Ln d) (fY d)) (h:eS w0 w R K s) (a2:Ln d=1) (W:(fy 15 0 0 (eN 6 (eM d 0) s)).code.length<=1000000) :
 ew 172 #[eL R 0,.agg #[em 6,em n,em m,em g,.slice Y (Ln d) ak,.slice a5 (Ln U) au,.slice a7 (Ln N) aI]] w fun e r=>e = .returned (.tuple #[])/\eS w0 r R K (fy 15 0 0 (eN 6 (eM d 0) s)):=by
 have aO:Hid (eS w0 (w.alloc (fV 6 n m g Y (Ln d) ak a5 (Ln U) au a7 (Ln N) aI)) R ((w.heap.size,(fV 6 n m g Y (Ln d) ak a5 (Ln U) au a7 (Ln N) aI)) :: K) s):=h.box (fV 6 n m g Y (Ln d) ak a5 (Ln U) au a7 (Ln N) aI)
 have f:(eN 6 (eM d 0) s).code.length<=1000000:=by simp only [fR] at W;omega
 obtain ⟨V,C,t,aA,rfl,aT,a1⟩:=kY ax 0 (by omega);simp only [jq,kf] at a1;have z:=kZ ay 0 (by omega);generalize eM d 0=y at *;obtain ⟨D,aZ,b6,bk,bm⟩:=a1 _ h.below
 have F:V<w.heap.size:=by
  rcases iS V w.heap.size with q | q
  . exact q
  . simp [World.cell?,lK q] at D
 have bq:0<Ln d:=by omega
 have ao:=hid (z A t aA _ _ _ aT aO f);clear h ay ax aT z a1 a2;go_enter func172,ntmps172;go_wp2_with fail;refine (ao).mono ?_;rintro e eq ⟨rfl,G⟩;have aP:=hid G;clear G;clear D aZ b6 bk bm;go_wp2_with fail;refine (jL 15 0 0 aP f).mono ?_;rintro e w2 ⟨rfl,J⟩;have ac:=hid J;clear J;go_wp2_with fail;go_end0;exact ⟨rfl,ac.tail⟩
theorem Ko {w0:World} {s:eK} {m g:Int} (ay:∀ y ∈ d,ha w0 R 6 y) (ax:eE w0 A Y (Ln d) (fY d)) (h:eS w0 w R K s) (a2:Ln d=1) (W:(fy 19 0 0 (eN 6 (eM d 0) s)).code.length<=1000000) :
 ew 172 #[eL R 0,.agg #[em 7,em n,em m,em g,.slice Y (Ln d) ak,.slice a5 (Ln U) au,.slice a7 (Ln N) aI]] w fun e r=>e = .returned (.tuple #[])/\eS w0 r R K (fy 19 0 0 (eN 6 (eM d 0) s)):=by
 have aO:Hid (eS w0 (w.alloc (fV 7 n m g Y (Ln d) ak a5 (Ln U) au a7 (Ln N) aI)) R ((w.heap.size,(fV 7 n m g Y (Ln d) ak a5 (Ln U) au a7 (Ln N) aI)) :: K) s):=h.box (fV 7 n m g Y (Ln d) ak a5 (Ln U) au a7 (Ln N) aI)
 have f:(eN 6 (eM d 0) s).code.length<=1000000:=by simp only [fR] at W;omega
 obtain ⟨V,C,t,aA,rfl,aT,a1⟩:=kY ax 0 (by omega);simp only [jq,kf] at a1;have z:=kZ ay 0 (by omega);generalize eM d 0=y at *;obtain ⟨D,aZ,b6,bk,bm⟩:=a1 _ h.below
 have F:V<w.heap.size:=by
  rcases iS V w.heap.size with q | q
  . exact q
  . simp [World.cell?,lK q] at D
 have bq:0<Ln d:=by omega
 have ao:=hid (z A t aA _ _ _ aT aO f);clear h ay ax aT z a1 a2;go_enter func172,ntmps172;go_wp2_with fail;refine (ao).mono ?_;rintro e eq ⟨rfl,G⟩;have aP:=hid G;clear G;clear D aZ b6 bk bm;go_wp2_with fail;refine (jL 19 0 0 aP f).mono ?_;rintro e w2 ⟨rfl,J⟩;have ac:=hid J;clear J;go_wp2_with fail;go_end0;exact ⟨rfl,ac.tail⟩
theorem Kq {w0:World} {s:eK} {m g:Int} (ay:∀ y ∈ d,ha w0 R 6 y) (ax:eE w0 A Y (Ln d) (fY d)) (h:eS w0 w R K s) (W:(fy 17 0 0 (kG (g9 (eN 6) d) m g s)).code.length<=1000000) :
 ew 172 #[eL R 0,.agg #[em 3,em n,em m,em g,.slice Y (Ln d) ak,.slice a5 (Ln U) au,.slice a7 (Ln N) aI]] w fun e r=>e = .returned (.tuple #[])/\eS w0 r R K (fy 17 0 0 (kG (g9 (eN 6) d) m g s)):=by
 have aO:Hid (eS w0 (w.alloc (fV 3 n m g Y (Ln d) ak a5 (Ln U) au a7 (Ln N) aI)) R ((w.heap.size,(fV 3 n m g Y (Ln d) ak a5 (Ln U) au a7 (Ln N) aI)) :: K) s):=h.box (fV 3 n m g Y (Ln d) ak a5 (Ln U) au a7 (Ln N) aI)
 have f:(g9 (eN 6) d s).code.length+1<=1000000:=by simp only [fR,kG,iq] at W;omega
 have ao:=hid (Ct (I:=ak) m g ay ax aO (by omega));clear h ay ax;go_enter func172,ntmps172;go_wp2_with fail;refine (ao).mono ?_;rintro e eq ⟨rfl,G⟩;have aP:=hid G;clear G;go_wp2_with fail;refine (jL 17 0 0 aP (by simp only [kG,iq];omega)).mono ?_;rintro e w2 ⟨rfl,J⟩;have ac:=hid J;clear J;go_wp2_with fail;go_end0;exact ⟨rfl,ac.tail⟩
theorem Kr {w0:World} {s:eK} {m g:Int} (ay:∀ y ∈ d,ha w0 R 6 y) (ax:eE w0 A Y (Ln d) (fY d)) (h:eS w0 w R K s) (a2:Ln d=2) (W:(fy 8 0 0 (eN 6 (eM d 1) (jj (eN 6 (eM d 0)) n m g s))).code.length<=1000000) :
 ew 172 #[eL R 0,.agg #[em 2,em n,em m,em g,.slice Y (Ln d) ak,.slice a5 (Ln U) au,.slice a7 (Ln N) aI]] w fun e r=>e = .returned (.tuple #[])/\eS w0 r R K (fy 8 0 0 (eN 6 (eM d 1) (jj (eN 6 (eM d 0)) n m g s))):=by
 have aO:Hid (eS w0 (w.alloc (fV 2 n m g Y (Ln d) ak a5 (Ln U) au a7 (Ln N) aI)) R ((w.heap.size,(fV 2 n m g Y (Ln d) ak a5 (Ln U) au a7 (Ln N) aI)) :: K) s):=h.box (fV 2 n m g Y (Ln d) ak a5 (Ln U) au a7 (Ln N) aI);have br:=np 6 (eM d 1) (jj (eN 6 (eM d 0)) n m g s)
 have b2:(eN 6 (eM d 1) (jj (eN 6 (eM d 0)) n m g s)).code.length<=1000000:=by simp only [fR] at W;omega
 have bg:(eN 6 (eM d 0) s).code.length<=1000000:=by simp only [jj,iq] at br b2;omega
 obtain ⟨V,C,t,aA,rfl,aT,a1⟩:=kY ax 0 (by omega);obtain ⟨bA,cf,b7,bj,j,ab,ez⟩:=kY ax 1 (by omega);cases j;simp only [jq,kf] at a1;simp only [rt] at ez;have z:=kZ ay 0 (by omega);have aS:=kZ ay 1 (by omega);generalize eM d 0=y at *;generalize eM d 1=z at *;have ao:=hid (Cs (cp:=aA) n m g z aT aO.drew bg);have ah:=hid (fun (M:World) (h:eS w0 M R ((w.heap.size,(fV 2 n m g (some (ep V C)) (Ln d) ak a5 (Ln U) au a7 (Ln N) aI)) :: K) (jj (eN 6 y) n m g s))=>aS A b7 bj _ _ M ab h b2)
 have aJ:Hid (∀ M u,eS w0 M R ((w.heap.size,(fV 2 n m g (some (ep V C)) (Ln d) ak a5 (Ln U) au a7 (Ln N) aI)) :: K) u->M.cell? (ep w.heap.size 1)=some (em n)/\M.cell? (ep w.heap.size 2)=some (em m)/\M.cell? (ep w.heap.size 3)=some (em g)/\M.cell? (ep w.heap.size 4)=some (.slice (some (ep V C)) (Ln d) ak)/\M.cell? (ep V C)=some (em y.op)/\M.cell? ⟨V,C+1,none⟩=some (em y.n)/\M.cell? ⟨V,C+2,none⟩=some (em y.m)/\M.cell? ⟨V,C+3,none⟩=some (em y.at_)/\M.cell? ⟨V,C+4,none⟩=some (.slice t (Ln y.args) aA)):=fun M u L=>by
  obtain ⟨av,an,aD,aR,b3,q5,q6, -⟩:=f6 L.head;obtain ⟨D,aZ,b6,bk,bm⟩:=a1 M L.below;exact ⟨an,aD,aR,b3,D,aZ,b6,bk,bm⟩
 have i:Hid (∀ M u,eS w0 M R ((w.heap.size,(fV 2 n m g (some (ep V C)) (Ln d) ak a5 (Ln U) au a7 (Ln N) aI)) :: K) u->M.cell? (ep w.heap.size 4)=some (.slice (some (ep V C)) (Ln d) ak)/\M.cell? ⟨V,C+5,none⟩=some (em z.op)/\M.cell? ⟨V,C+5+1,none⟩=some (em z.n)/\M.cell? ⟨V,C+5+2,none⟩=some (em z.m)/\M.cell? ⟨V,C+5+3,none⟩=some (em z.at_)/\M.cell? ⟨V,C+5+4,none⟩=some (.slice b7 (Ln z.args) bj)):=fun M u L=>by
  obtain ⟨av,an,aD,aR,b3,q5,q6, -⟩:=f6 L.head;obtain ⟨D,aZ,b6,bk,bm⟩:=ez M L.below;exact ⟨b3,D,aZ,b6,bk,bm⟩
 have aK:=hid aO.drew
 have bq:1<Ln d:=by omega
 clear h ay ax aT ab z aS a1 ez a2;go_enter func172,ntmps172;go_upto_region 5 with fail
 go_region_held (fun M=>M.cell? (ep w.heap.size 1)=some (em n)/\M.cell? (ep w.heap.size 2)=some (em m)/\M.cell? (ep w.heap.size 3)=some (em g)/\M.cell? (ep w.heap.size 4)=some (.slice (some (ep V C)) (Ln d) ak)/\M.cell? (ep V C)=some (em y.op)/\M.cell? ⟨V,C+1,none⟩=some (em y.n)/\M.cell? ⟨V,C+2,none⟩=some (em y.m)/\M.cell? ⟨V,C+3,none⟩=some (em y.at_)/\M.cell? ⟨V,C+4,none⟩=some (.slice t (Ln y.args) aA)) (first | with_reducible exact aJ _ _ aO | with_reducible exact aJ _ _ aK | with_reducible exact aJ _ _ aP)
  (first
    | (go_at_call 215;refine ao.mono ?_;rintro e eq ⟨rfl,G⟩;have aP:=hid G;clear G))
 all_goals
  obtain ⟨b3,D,aZ,b6,bk,bm⟩:=i _ _ aP;go_wp2_with fail;refine (ah _ aP).mono ?_;rintro e w2 ⟨rfl,J⟩;have ac:=hid J;clear J b3 D aZ b6 bk bm;go_wp2_with fail;refine (jL 8 0 0 ac b2).mono ?_;rintro e eC ⟨rfl,S⟩;have X:=hid S;clear S;go_wp2_with fail;go_end0;exact ⟨rfl,X.tail⟩
def uU (f:eB->eK->eK) (p n m g:Int) (d:List eH) (U N:List eB) (s:eK):eK:=
 if p=1 then pJ (eN 6 (eM d 0)) m g s
 else if p=2 then fy 8 0 0 (eN 6 (eM d 1) (jj (eN 6 (eM d 0)) n m g s))
 else if p=3 then fy 17 0 0 (kG (g9 (eN 6) d) m g s)
 else if p=4 then oQ (eN 6 (eM d 0)) (fZ f U) (fZ f N) N.isEmpty s
 else if p=5 then qM (eN 6 (eM d 0)) (fZ f U) s
 else if p=6 then fy 15 0 0 (eN 6 (eM d 0) s)
 else if p=7 then fy 19 0 0 (eN 6 (eM d 0) s)
 else s
theorem x7 (k:Nat) (p n m g:Int) (d:List eH) (U N:List eB) (s:eK):gB (k+1) ⟨p,n,m,g,d,U,N⟩ s=uU (gB k) p n m g d U N s:=rfl
theorem x8 {p m g:Int} (h:fJ c ⟨p,n,m,g,d,U,N⟩=true):(1<=p/\p<=7)/\(p=2->Ln d=2)/\(p≠2->p≠3->Ln d=1):=by
 unfold fJ at h
 by_cases aw:p=1
 . subst aw
   simp [eB.op,eB.args] at h;exact ⟨by decide,fun h=>absurd h (by decide),fun _ _=>of_decide_eq_true h.1⟩
 by_cases aE:p=2
 . subst aE
   simp [eB.op,eB.args] at h;exact ⟨by decide,fun _=>of_decide_eq_true h.1,fun h=>absurd rfl h⟩
 by_cases b4:p=3
 . subst b4
   exact ⟨by decide,fun h=>absurd h (by decide),fun _ h=>absurd rfl h⟩
 by_cases b8:4<=p/\p<=7
 . simp [eB.op,eB.args,aw,aE,b4,b8] at h
   exact ⟨by omega,fun h=>absurd h aE,fun _ _=>of_decide_eq_true h.1⟩
 . simp [eB.op,eB.args,aw,aE,b4,b8] at h
theorem Ks {w0:World} {x:eB} (Q:fJ c x=true) (ay:∀ y ∈ x.args,ha w0 R 6 y) (ab:∀ y ∈ x.body,nW w0 R k y) (aQ:∀ y ∈ x.other,nW w0 R k y):nW w0 R (k+1) x:=by
 obtain ⟨p,n,m,g,d,U,N⟩:=x;intro A Y ak a5 au a7 aI K s w ax b f h W;obtain ⟨⟨I,v⟩,t,j⟩:=x8 Q;rw [x7] at W ⊢;unfold uU at W ⊢;simp only [eB.op,eB.n,eB.m,eB.at_,eB.args,eB.body,eB.other] at ax b f ay ab aQ ⊢
 by_cases aw:p=1
 . rw [if_pos aw] at W ⊢
   subst aw;unfold pJ at W ⊢;refine Kj ?_
   by_cases a8:m = -1
   . rw [if_pos a8] at W ⊢;exact Ke (k:=0) ay ax (h.box _) (j (by decide) (by decide)) a8 W
   . rw [if_neg a8] at W ⊢;exact Kf (k:=0) ay ax (h.box _) (j (by decide) (by decide)) a8 W
 rw [if_neg aw] at W ⊢
 by_cases aE:p=2
 . rw [if_pos aE] at W ⊢
   subst aE;exact Kr (k:=0) ay ax h (t rfl) W
 rw [if_neg aE] at W ⊢
 by_cases b4:p=3
 . rw [if_pos b4] at W ⊢
   subst b4;exact Kq (k:=0) ay ax h W
 rw [if_neg b4] at W ⊢;have a2:=j aE b4
 by_cases b8:p=4
 . rw [if_pos b8] at W ⊢
   subst b8;refine Kk ?_;unfold oQ at W ⊢
   cases N with
   | nil=>exact Kg (N:=[]) ay ax (h.box _) a2 ab b W
   | cons o O=>exact Kh ay ax (h.box _) a2 ab b aQ f (by simp) W
 rw [if_neg b8] at W ⊢
 by_cases u:p=5
 . rw [if_pos u] at W ⊢
   subst u;exact Kl (Ki ay ax (h.box _) a2 ab b W)
 rw [if_neg u] at W ⊢
 by_cases aP:p=6
 . rw [if_pos aP] at W ⊢
   subst aP;exact Km (k:=0) ay ax h a2 W
 rw [if_neg aP] at W ⊢
 by_cases a:p=7
 . rw [if_pos a] at W ⊢
   subst a;exact Ko (k:=0) ay ax h a2 W
 . omega
theorem uV {w0:World}:∀ (k:Nat) (l:List eB),gw c k l=true->∀ y ∈ l,nW w0 R k y
 | 0,l,h=>by simp [gw] at h
 | k + 1,l,h=>fun y z=>by
   simp only [gw,fs,hJ] at h;obtain ⟨G,J,S⟩:=h.2 y z
   have ay:∀ z ∈ y.args,ha w0 R 6 z:=fun z aS=>by
    rw [show gW c 6 y.args=y.args.all (fun x=>fI c x&&gW c 5 x.args) from rfl,hJ] at J;have a6:=J z aS;rw [fs] at a6;exact Cw 5 z a6.1 a6.2
   have nil:∀ (q:List eB),Ln q=0->∀ z ∈ q,nW w0 R k z:=fun q Q z aS=>by
    rw [ii Q] at aS;simp at aS
   refine Ks G ay ?_ ?_
   . split at S
     . exact uV k _ (fs .. ▸ S).1
     . split at S
       . exact uV k _ (fs .. ▸ S).1
       . simp only [fs,decide_eq_true_eq] at S
         exact nil _ S.1
   . split at S
     . exact uV k _ (fs .. ▸ S).2
     . split at S
       . simp only [fs,decide_eq_true_eq] at S
         exact nil _ S.2
       . simp only [fs,decide_eq_true_eq] at S
         exact nil _ S.2
def nX:Nat->Nat
 | 0=>0
 | k+1=>3*nX k+4
theorem x9 {f:eH->eK->eK}:∀ (l:List eH),(∀ y ∈ l,∀ s,(f y s).code.length<=Ln s.code+g)->∀ s,(g9 f l s).code.length<=Ln s.code+Ln l*g
 | [],_,s=>by simp [g9]
 | x :: O,h,s=>by
   have G:=h x (gV ..) s;have J:=x9 O (fun y z=>h y (gC _ z)) (f x s);show (g9 f O (f x s)).code.length<=_;simp only [iH,Nat.add_mul,rt];omega
def sW (c:Ck):Prop:=∀ m g k:Int,ip c m g k=true->k<=3
theorem Kt (a1:sW c) (h:fI c x=true):Ln x.args<=3:=by
 obtain ⟨p,n,m,g,d⟩:=x;show Ln d<=3
 by_cases aw:p=1
 . subst aw;simp [fI,eH.op,eH.args] at h;rw [h.1];simp
 by_cases b4:p=16
 . subst b4;simp [fI,eH.op,eH.args] at h;rw [h.1];simp
 by_cases b8:p=3
 . subst b8;simp [fI,eH.op,eH.args] at h;rw [h.1];simp
 by_cases u:p=4
 . subst u;have:=Cu h;omega
 by_cases aP:p=5
 . subst aP
   simp [fI,eH.op,eH.args,eH.m,eH.at_] at h;have:=a1 _ _ _ h.2;omega
 have a2:=x6 h aw b4 b8 u aP;unfold lr at a2
 split at a2
 . omega
 . split at a2
   . omega
   . split at a2<;>omega
theorem Ku (a1:sW c):∀ (k:Nat) (x:eH),fI c x=true->gW c k x.args=true->∀ s,(eN (k+1) x s).code.length<=Ln s.code+nX (k+1):=by
 have b:∀ (k:Nat) (x:eH),fI c x=true->(∀ y ∈ x.args,∀ s,(eN k y s).code.length<=Ln s.code+nX k)->∀ s,(eN (k+1) x s).code.length<=Ln s.code+nX (k+1):=by
  intro k x Q ay s;have a2:=Kt a1 Q;obtain ⟨p,n,m,g,d⟩:=x
  have aT:∀ i s,(eN k (eM d i) s).code.length<=Ln s.code+nX k:=fun i s=>by
   by_cases X:i<Ln d
   . rw [rI _ _ X];exact ay _ (fO X) s
   . have:eM d i=xX:=by simp [eM,lJ,pm (Nat.le_of_not_lt X)]
     rw [this]
     cases k with
     | zero=>exact Nat.le_add_right ..
     | succ k=>
       show (fy 10 0 0 (g9 (eN k) [] s)).code.length<=_;rw [fR];show Ln s.code+1<=Ln s.code+(3*nX k+4);omega
  have aO:=x9 (f:=eN k) (g:=nX k) d ay s;have a8:Ln d*nX k<=3*nX k:=wU _ a2;have a3:=aT 0 s;have G:=aT 1 (fP 12 0 (eN k (eM d 0) s));have J:=aT 1 (g8 (eN k (eM d 0) s).code.length (fP 11 0 (fy 1 1 0 (fP 12 0 (eN k (eM d 0) s)))));rw [x0];unfold uT;simp only [nX];simp only [gI,gR,fR] at G J
  repeat' split
  all_goals (simp only [fR,iq,jj,kG,nk,nn,gI,gR];omega)
 intro k
 induction k with
 | zero=>intro x G J;exact b 0 x G (fun y z s=>Nat.le_add_right ..)
 | succ k aH=>
   intro x G J;refine b (k+1) x G (fun y z=>?_);rw [show gW c (k+1) x.args=x.args.all (fun x=>fI c x&&gW c k x.args) from rfl,hJ] at J;have a6:=J y z;rw [fs] at a6;exact aH y a6.1 a6.2
theorem uW {f:eB->eK->eK}:∀ (l:List eB),(∀ y ∈ l,∀ s,(f y s).code.length<=max (Ln s.code) 2048+g)->∀ s,(fZ f l s).code.length<=max (Ln s.code) (2048+g)
 | [],_,s=>Nat.le_max_left ..
 | x :: O,h,s=>by
   have G:=h x (gV ..) s;have J:=uW O (fun y z=>h y (gC _ z));show (fZ f O (if kX s=true then s else f x s)).code.length<=_;split
   . exact J s
   . rename_i ag
     have:=J (f x s);unfold kX at ag;simp only [decide_eq_true_eq] at ag;omega
theorem Cy {l:List eB} (h:gw c (k+1) l=true) {y:eB} (z:y ∈ l):fJ c y=true/\gW c 6 y.args=true/\(gw c k y.body=true\/Ln y.body=0)/\(gw c k y.other=true\/Ln y.other=0):=by
 simp only [gw,fs,hJ] at h;obtain ⟨G,J,S⟩:=h.2 y z;refine ⟨G,J,?_⟩
 split at S
 . rw [fs] at S;exact ⟨Or.inl S.1,Or.inl S.2⟩
 . split at S
   . rw [fs] at S;exact ⟨Or.inl S.1,Or.inr (of_decide_eq_true S.2)⟩
   . rw [fs] at S;exact ⟨Or.inr (of_decide_eq_true S.1),Or.inr (of_decide_eq_true S.2)⟩
theorem ya (a1:sW c):∀ (k:Nat) (l:List eB),gw c k l=true->∀ y ∈ l,∀ s,(gB k y s).code.length<=max (Ln s.code) 2048+5000*k
 | 0,l,h=>by simp [gw] at h
 | k + 1,l,h=>fun y z s=>by
   obtain ⟨G,J,S,a6⟩:=Cy h z;obtain ⟨p,n,m,g,d,U,N⟩:=y;obtain ⟨⟨I,v⟩,t,j⟩:=x8 G;simp only [eB.args,eB.body,eB.other] at J S a6
   have ay:∀ z ∈ d,∀ s,(eN 6 z s).code.length<=Ln s.code+1456:=fun z aS s=>by
    rw [show gW c 6 d=d.all (fun x=>fI c x&&gW c 5 x.args) from rfl,hJ] at J;have ap:=J z aS;rw [fs] at ap;exact Ku a1 5 z ap.1 ap.2 s
   have aT:∀ i,i<Ln d->∀ s,(eN 6 (eM d i) s).code.length<=Ln s.code+1456:=fun i X s=>by
    rw [rI _ _ X];exact ay _ (fO X) s
   have nil:∀ (q:List eB),Ln q=0->∀ s,(fZ (gB k) q s).code.length<=max (Ln s.code) (2048+5000*k):=fun q Q s=>by
    rw [ii Q];exact Nat.le_max_left ..
   have ab:∀ s,(fZ (gB k) U s).code.length<=max (Ln s.code) (2048+5000*k):=by
    rcases S with S | S
    . exact uW _ (ya a1 k _ S)
    . exact nil _ S
   have aQ:∀ s,(fZ (gB k) N s).code.length<=max (Ln s.code) (2048+5000*k):=by
    rcases a6 with a6 | a6
    . exact uW _ (ya a1 k _ a6)
    . exact nil _ a6
   rw [x7];unfold uU
   by_cases b4:p=3
   . subst b4
     have az:Ln d<=3:=by
      simp [fJ,eB.op,eB.args,eB.m,eB.at_] at G;have:=a1 _ _ _ G.2;omega
     have ap:=x9 (f:=eN 6) (g:=1456) d ay s;have aw:Ln d*1456<=3*1456:=wU _ az;simp only [show ¬ ((3:Int)=1) from by decide,show ¬ ((3:Int)=2) from by decide,if_true,if_false,fR,kG,iq];omega
   have bq:0<Ln d:=by
    by_cases aE:p=2
    . have:=t aE;omega
    . have:=j aE b4;omega
   have a3:=aT 0 bq s;have b7:=ab (fP 12 0 (eN 6 (eM d 0) s));have V:=aQ (g8 (eN 6 (eM d 0) s).code.length (fP 11 0 (fZ (gB k) U (fP 12 0 (eN 6 (eM d 0) s)))));have b9:=ab (fy 16 0 0 (fP 12 0 (eN 6 (eM d 0) s)));simp only [gI,gR,fR] at b7 V b9
   by_cases aE:p=2
   . subst aE
     have ah:=aT 1 (by have:=t rfl;omega) (jj (eN 6 (eM d 0)) n m g s);simp only [show ¬ ((2:Int)=1) from by decide,if_true,if_false,fR];simp only [jj,iq] at ah ⊢;omega
   repeat' split
   all_goals first
    | omega
    | (simp only [fR,pJ,oQ,qM];omega)
    | (unfold pJ;split<;>simp only [fR,iq]<;>omega)
    | (unfold oQ;split<;>simp only [gI]<;>omega)
    | (unfold qM;simp only [gI,gR];omega)
theorem Cz (a1:sW c) (p:gO) (h:gw c 6 p.body=true) (s:eK):(oR p s).code.length<=max (Ln s.code) 32048+3:=by
 have:=uW p.body (ya a1 6 p.body h) (fy 14 p.params p.locals s);simp only [fR] at this;simp only [oR,fR];omega
theorem CA {w0:World} {s:eK} {p:gO} {a:OA} (az:gw c 6 p.body=true) (ax:eE w0 A a (Ln p.body) (f9 p.body)) (h:eS w0 w R K s) (W:(oR p s).code.length<=1000000) :
 ew 79 #[eL R 0,.agg #[em p.params,em p.locals,.slice a (Ln p.body) I]] w fun e r=>e = .returned (.tuple #[])/\eS w0 r R K (oR p s):=by
 have aO:Hid (eS w0 (w.alloc (mg p.params p.locals a (Ln p.body) I)) R ((w.heap.size,mg p.params p.locals a (Ln p.body) I) :: K) s):=h.box _;have br:=nV (qN 6) p.body (fy 14 p.params p.locals s)
 have b2:(fZ (gB 6) p.body (fy 14 p.params p.locals s)).code.length+2<=1000000:=by simp only [oR,fR] at W;omega
 rw [fR] at br;have ad:=hid (fun (K:List (Nat × Obj)) (s:eK) (w:World)=>sV (w:=w) (K:=K) (s:=s) (I:=I) (uV (w0:=w0) (R:=R) 6 p.body az) ax);clear h az ax;go_enter func79,ntmps79;go_wp2_with fail;refine (jL 14 p.params p.locals aO (by omega)).mono ?_;rintro e eq ⟨rfl,G⟩;have aP:=hid G;clear G;obtain ⟨av,an,aD, -⟩:=pG aP.head;go_wp2_with fail;refine (ad _ _ _ aP (by omega)).mono ?_;rintro e w2 ⟨rfl,J⟩;have ac:=hid J;clear J av an aD;go_wp2_with fail;refine (jL 1 0 0 ac (by omega)).mono ?_;rintro e eC ⟨rfl,S⟩;have X:=hid S;clear S;go_wp2_with fail;refine (jL 15 0 0 X (by rw [fR];omega)).mono ?_;rintro e eA ⟨rfl,a6⟩;have aa:=hid a6;clear a6;go_wp2_with fail;go_end0;exact ⟨rfl,aa.tail⟩
def ig (m g n:Int):Bool:=decide (n=1/\g=512)||nQ 512 g n
def hU (m g k:Int):Bool:=decide (0<=g/\g<6)&&decide (k<=3)
theorem Kv (m g n:Int) (w:World) (ab:(Lit.int .i64 g).wf=true) (G:1<=n) (J:n<=32) :
 ew 327 #[.agg #[],em m,em g,em n] w fun e r=>e = .returned (.bool (ig m g n))/\et w r:=by
 by_cases l:n=1
 . by_cases O:g=512
   . have z:Hid (ig m g n=true):=by show _=_;unfold ig;rw [decide_eq_true ⟨l,O⟩];rfl
     subst l;subst O;clear ab G J;go_enter func327,ntmps327;go_wp2_with fail;go_ret;exact ⟨ret_bool z.symm,ey _ _⟩
   . have z:Hid (ig m g n=nQ 512 g n):=by show _=_;unfold ig;rw [decide_eq_false (fun h=>O h.2)];rfl
     have b8:=hid (xE 512 g n (w.alloc (.cells #[] 133)) (by decide) (by decide) G J ab);subst l;clear ab G J;go_enter func327,ntmps327;go_wp2_with fail;refine b8.mono ?_;rintro e eq ⟨rfl,rfl⟩;go_wp2_with fail;go_ret;exact ⟨ret_bool (by first | exact z.symm | (rw [z.out]<;>first | (simp;omega) | (simp [*];done))),ey _ _⟩
 . have z:Hid (ig m g n=nQ 512 g n):=by show _=_;unfold ig;rw [decide_eq_false (fun h=>l h.1)];rfl
   have b8:=hid (xE 512 g n (w.alloc (.cells #[] 133)) (by decide) (by decide) G J ab);clear ab G J;go_enter func327,ntmps327;go_wp2_with fail;refine b8.mono ?_;rintro e eq ⟨rfl,rfl⟩;go_wp2_with fail;go_ret;exact ⟨ret_bool z.symm,ey _ _⟩
theorem Kw (m g:Int) (k:Nat) (w:World) :
 ew 328 #[.agg #[],em m,em g,em k] w fun e r=>e = .returned (.bool (hU m g k))/\et w r:=by
 by_cases l:0<=g
 . by_cases O:g<6
   . have z:Hid (hU m g k=decide ((k:Int)<=3)):=by show _=_;unfold hU;rw [decide_eq_true ⟨l,O⟩];rfl
     go_enter func328,ntmps328;go_wp2_with fail;go_ret;exact ⟨ret_bool z.symm,ey _ _⟩
   . have z:Hid (hU m g k=false):=by show _=_;unfold hU;rw [decide_eq_false (fun h=>O h.2)];rfl
     have R:6<=g:=by omega
     clear O;go_enter func328,ntmps328;go_wp2_with fail;go_ret;exact ⟨ret_bool z.symm,ey _ _⟩
 . have z:Hid (hU m g k=false):=by show _=_;unfold hU;rw [decide_eq_false (fun h=>l h.1)];rfl
   have I:g<0:=by omega
   clear l;go_enter func328,ntmps328;go_wp2_with fail;go_ret;exact ⟨ret_bool z.symm,ey _ _⟩
theorem Kx (w:World) (u:ga) (l:Int):pE w (hT u ig hU l) 327 328 (.agg #[]):=
 ⟨fun M _ m g n _ ab G J=>Kv m g n M ab G J,fun M _ m g k _ _ _=>Kw m g k M⟩
theorem CB (u:ga) (E:OA) (T:Nat) (ae:OA) (X:Nat) (H:OA) (y3:Nat) (w:World) (d:kV w u E T ae X H y3) :
 ew 77 #[.agg #[.string u.name,.slice E (Ln u.uses) T,em u.data,.slice ae (Ln u.parts) X,.slice H (Ln u.main) y3],.iface 133 (.agg #[])] w fun e r=>e = .returned (.bool (ji u ig hU))/\et w r:=
 Io u ig hU E T ae X H y3 133 (.agg #[]) w d (fun m l M L=>by
  have ez:=xH m
  exact Ib (hT u ig hU l) u.name E T ae X H (Ln u.main) y3 M ez.1 ez.2 (d.later L).uses.bound (d.later L).parts (Kx M u l))
structure eO where
 name:ByteArray
 uses:List ByteArray
 data:Int
 code:List fM
 fixes:List gQ
 entries:List Int
 main:Int
def sX:eK:=⟨[],[]⟩
def ir (l:List gO):eK:=l.foldl (fun s y=>oR y s) sX
def uX (l:List gO):List Int:=(List.range (Ln l)).map (fun i=>((ir (l.take i)).code.length:Int))
def iN (u:ga):eK:=oR ⟨0,0,u.main⟩ (ir u.parts)
def oT (u:ga):eO:=⟨u.name,u.uses,u.data,(iN u).code,(iN u).fixes,uX u.parts,(ir u.parts).code.length⟩
def lY (u:ga):Except Int eO:=
 if (Go.Lib.containsS u.uses u.name || !ji u ig hU)=true then .error 1
 else if kX (iN u)=true then .error 2
 else .ok (oT u)
theorem yb (l:List gO) (j:Nat) (h:j<Ln l):ir (l.take (j+1))=oR l[j] (ir (l.take j)):=by
 rw [hI h];unfold ir;rw [mS]
 rfl
def pQ (l:List gO) (j:Nat):List Int:=(List.range j).map (fun i=>((ir (l.take i)).code.length:Int))
theorem Ky (l:List gO) (j:Nat):pQ l (j+1)=pQ l j++[((ir (l.take j)).code.length:Int)]:=by
 unfold pQ;rw [sx,mq]
 rfl
theorem qP (l:List gO) (j:Nat):(pQ l j).length=j:=by simp [pQ]
theorem oU {c a:Int->Int->Int->Bool} (h:ji u c a=true):(∀ y ∈ u.parts,gw (hT u c a (y.params+y.locals)) 6 y.body=true)/\gw (hT u c a 0) 6 u.main=true/\ie u=true:=by
 unfold ji at h;simp only [fs,hJ] at h;exact ⟨h.2.1,h.2.2,h.1⟩
theorem CC (h:ie u=true) (l:Int):sW (hT u ig hU l):=fun m g k N=>by
 unfold ip at N
 split at N
 . unfold lq at N
   rw [fs] at N;obtain ⟨_,J⟩:=N;unfold ie at h;simp only [fs,hJ] at h;simp only [hT] at J
   cases Q:u.parts[g.toNat]? with
   | none=>rw [Q] at J;cases J
   | some y=>
     rw [Q] at J;have S:=of_decide_eq_true J;have a6:=h.2.1 y (wT Q);unfold jJ at a6;rw [fs] at a6;have ap:=of_decide_eq_true a6.1;omega
 . rw [fs] at N
   simp only [hT,hU,fs] at N;exact of_decide_eq_true N.2.2
theorem yc (h:ji u ig hU=true):∀ j,j<=Ln u.parts->(ir (u.parts.take j)).code.length<=32051+3*j
 | 0,_=>by simp [ir,sX]
 | j+1,ac=>by
   have G:=yc h j (by omega);obtain ⟨az,_,m⟩:=oU h;have J:=Cz (CC m _) u.parts[j] (az _ (fO (by omega))) (ir (u.parts.take j));rw [yb _ _ (by omega)];omega
theorem uY (h:ie u=true):Ln u.parts<=6:=by
 unfold ie at h;simp only [fs] at h;exact of_decide_eq_true h.2.2.2
theorem yd (h:ji u ig hU=true):(iN u).code.length<=33000:=by
 obtain ⟨_,a8,m⟩:=oU h;have G:=yc h (Ln u.parts) (eD _);rw [iA] at G;have J:=uY m;have S:=Cz (CC m 0) ⟨0,0,u.main⟩ a8 (ir u.parts);unfold iN;omega
def intV (l:List Int):List Value:=l.map (Value.int .i64 ·)
theorem CD (l:List Int) (x:Int):intV (l++[x])=intV l++[em x]:=by simp [intV]
def Kz (B:Nat) (v:Value) (t:List Int) (E:List (Nat × Obj)):Prop:=
 (t=[]/\v=eu/\E=[])\/∃ g I o,v = .slice (some (ep g 0)) (Ln t) I/\E=[(g,.cells o 3)]/\B<=g/\Ln t<=I/\I<=maxLen/\o.size=I*1/\o.toList.take (Ln t*1)=intV t
def hr (w0 w:World) (R:Nat) (K:List (Nat × Obj)) (s:eK) (v:Value) (t:List Int):Prop:=∃ L,Kz w0.heap.size v t L/\eS w0 w R (L++K) s/\∀ x ∈ K,v.ownBlock≠some x.1
section
variable {w0 w r:World} {R:Nat} {K:List (Nat × Obj)} {s:eK} {v:Value} {t:List Int}
theorem hr.start (h:eS w0 w R K s):hr w0 w R K s (eu) []:=⟨[],Or.inl ⟨rfl,rfl,rfl⟩,h,fun x _ e=>by simp [Value.ownBlock] at e⟩
theorem hr.own (h:hr w0 w R K s v t):w.ownsRow w0.heap.size 3 1 v (Ln t) (intV t):=by
 obtain ⟨L,B,aq,_⟩:=h;refine ⟨by simp [intV],?_⟩
 rcases B with ⟨G,J,_⟩ | ⟨g,I,o,a7,B,ab,S,a6,ap,aw⟩
 . exact Or.inl ⟨J,by rw [G];rfl⟩
 . subst B
   exact Or.inr ⟨g,I,o,a7,ab,aq.head,S,a6,ap,aw⟩
theorem hr.form (h:hr w0 w R K s v t):∃ a I,v = .slice a (Ln t) I/\Ln t<=I/\I<=maxLen:=im h.own
theorem hr.wri (h:hr w0 w R K s v t):eS w0 w R K s:=by
 obtain ⟨L,_,aq,_⟩:=h;exact aq.sub (fun x Q=>qq _ Q)
theorem hr.later (h:hr w0 w R K s v t) (F:et w r):hr w0 r R K s v t:=by
 obtain ⟨L,B,aq,Q⟩:=h;exact ⟨L,B,aq.later F,Q⟩
theorem hr.alloc (h:hr w0 w R K s v t) (o:Obj):hr w0 (w.alloc o) R K s v t:=h.later ((Below.refl _ _).alloc (eD _) o)
theorem hr.box (h:hr w0 w R K s v t) (o:Obj):hr w0 (w.alloc o) R ((w.heap.size,o) :: K) s v t:=by
 have aW:=h.own;obtain ⟨L,B,aq,Q⟩:=h;refine ⟨L,B,(aq.box o).sub (fun x Q=>?_),fun x a8=>?_⟩
 . rcases nN.1 Q with G | G
   . exact gC _ (wV _ G)
   . rcases lM.1 G with rfl | G
     . exact gV ..
     . exact gC _ (qq _ G)
 . rcases lM.1 a8 with rfl | a8
   . intro e
     have:=(aW.lt _ e).2;simp only at this;omega
   . exact Q x a8
theorem hr.tail {x:Nat × Obj} (h:hr w0 w R (x :: K) s v t):hr w0 w R K s v t:=by
 obtain ⟨L,B,aq,Q⟩:=h;refine ⟨L,B,aq.sub (fun y z=>?_),fun y z=>Q y (gC _ z)⟩
 rcases nN.1 z with G | G
 . exact wV _ G
 . exact qq _ (gC _ G)
theorem hr.call {f:FuncId} {d:Array Value} {s':eK} (h:hr w0 w R K s v t) (a1:∀ K',eS w0 w R K' s->Calls P f d w fun e r=>e = .returned (.tuple #[])/\eS w0 r R K' s') :
 Calls P f d w fun e r=>e = .returned (.tuple #[])/\hr w0 r R K s' v t:=by
 obtain ⟨L,B,aq,Q⟩:=h;exact (a1 _ aq).mono (fun e r h=>⟨h.1,L,B,h.2,Q⟩)
theorem hr.onto {x:Int} (h:hr w0 w R K s v t) (aa:pK w r w0.heap.size 3 1 v (Ln t) g I (intV t++[em x])) :
 hr w0 r R K s (.slice (some (ep g 0)) (Ln t+1) I) (t++[x]):=by
 have aW:=h.own;obtain ⟨L,B,⟨a2,q,Y,aq⟩,Q⟩:=h
 have a7:∀ k,v.ownBlock=some k->k≠R/\q.ownBlock≠some k/\Y.ownBlock≠some k:=fun k N=>by
  rcases B with ⟨_,J,_⟩ | ⟨aj,f,o,a7,B,_⟩
  . rw [J] at N;simp [Value.ownBlock] at N
  . subst B
    rw [a7] at N;simp only [Value.ownBlock,kR] at N;subst N;obtain ⟨_,J,S,a6⟩:=aq.kp (aj,.cells o 3) (wV _ (gV ..));exact ⟨J,S,a6⟩
 have b:∀ k,k<w.heap.size->v.ownBlock≠some k->g≠k:=fun k N aV e=>by
  rcases aa.at_ with G | G
  . exact aV (by rw [G,e])
  . omega
 rcases aa.own.2 with ⟨G,_⟩ | ⟨aj,f,o,D,ab,af,S,a6,ap,aw⟩
 . cases G
 cases D
 have E:∀ k,q.ownBlock=some k->v.ownBlock≠some k:=fun k G J=>(a7 k J).2.1 G
 have c:∀ k,Y.ownBlock=some k->v.ownBlock≠some k:=fun k G J=>(a7 k J).2.2 G
 have a:∀ k,k<w.heap.size->v.ownBlock≠some k->r.heap[k]? = w.heap[k]?:=fun k N aV=>
  (aa.old k _ (qo N) aV).trans (qo N).symm
 refine ⟨[(g,.cells o 3)],Or.inr ⟨g,I,o,by rw [gn];rfl,rfl,ab,by rw [gn];exact S,a6,ap,by rw [gn,CD];exact aw⟩,⟨a2,q,Y,?_⟩,fun y z e=>?_⟩
 . exact {
    blk:=(a R aq.ltR (fun e=>(a7 R e).1 rfl)).trans aq.blk
    hR:=aq.hR
    code:=il aq.code (fun k N=>a k (aq.code.lt k N).2 (E k N))
    fix:=il aq.fix (fun k N=>a k (aq.fix.lt k N).2 (c k N))
    apt:=aq.apt
    nc:=aq.nc
    nf:=aq.nf
    below:=aq.below.trans aa.below
    kp :=fun y z=>by
     rcases nN.1 z with ah | ah
     . rw [pn] at ah
       subst ah;refine ⟨af,b R aq.ltR (fun e=>(a7 R e).1 rfl),fun e=>?_,fun e=>?_⟩
       . exact b g (aq.code.lt g e).2 (E g e) rfl
       . exact b g (aq.fix.lt g e).2 (c g e) rfl
     . obtain ⟨ak,au,aI,bq⟩:=aq.kp y (qq _ ah)
       exact ⟨aa.old _ _ ak (Q y ah),au,aI,bq⟩}
 . have ak:=(aq.kp y (qq _ z)).1
   simp only [Value.ownBlock,kR] at e;exact b y.1 (lt_of_heap ak) (Q y z) e
end
theorem ye (l:List ByteArray) (x:ByteArray) (a:OA) (I:Nat) (w:World) (h:eE w eV a (Ln l) (fj l)) :
 ew 76 #[.slice a (Ln l) I,.string x] w fun e r=>e = .returned (.bool (Go.Lib.containsS l x))/\r=w:=by
 have F:=h.bound
 rcases (lT h).1 with rfl | ⟨V,C,rfl,_,a1⟩
 . have:Go.Lib.containsS [] x=false:=by
    cases Q:Go.Lib.containsS [] x with
    | false=>rfl
    | true=>have:=(Go.Lib.containsS_iff [] x).1 Q;simp at this
   rw [this];exact Tryz.slices_Contains_string_empty a I x w
 . have:=Tryz.slices_Contains_string V C (Ln l) I l x w (eD _) (by omega) (fun j ac=>by rw [a1 j ac];simp [lJ,ac])
   rw [iA] at this;exact this
def pR (w:World) (u:ga) (e:Ending) (r:World):Prop:=
 match lY u with
 | .error c=>e = .returned (.tuple #[.agg #[.string ⟨#[]⟩,.slice none 0 0,.int .i64 0,.slice none 0 0,.slice none 0 0,.slice none 0 0,.int .i64 0],.int .i64 c])
 | .ok o=>∃ p f aA bP az t b cu,e = .returned (.tuple #[.agg #[.string o.name,.slice p (Ln o.uses) f,.int .i64 o.data,.slice aA (Ln o.code) bP,.slice az (Ln o.fixes) t,.slice b (Ln o.entries) cu,.int .i64 o.main],.int .i64 0])/\
  r.ownsRow w.heap.size 9 1 (.slice p (Ln o.uses) f) (Ln o.uses) (strV o.uses)/\r.ownsRow w.heap.size 69 3 (.slice aA (Ln o.code) bP) (Ln o.code) (gj o.code)/\
  r.ownsRow w.heap.size 67 3 (.slice az (Ln o.fixes) t) (Ln o.fixes) (oS o.fixes)/\r.ownsRow w.heap.size 3 1 (.slice b (Ln o.entries) cu) (Ln o.entries) (intV o.entries)
theorem yg {b:Nat} (h:Below B w r) (F:B<=b) (Z aK aN aY be P t:Value) :
 Below B w (((((((r.setCell (ep b 0) Z).setCell (ep b 1) aK).setCell (ep b 2) aN).setCell (ep b 3) aY).setCell (ep b 4) be).setCell (ep b 5) P).setCell (ep b 6) t):=
 (((((((h.setCell (p:=(ep b 0)) F Z).setCell (p:=(ep b 1)) F aK).setCell (p:=(ep b 2)) F aN).setCell (p:=(ep b 3)) F aY).setCell (p:=(ep b 4)) F be).setCell (p:=(ep b 5)) F P).setCell (p:=(ep b 6)) F t)
theorem KA (u:ga) (E:OA) (T:Nat) (ae:OA) (X:Nat) (H:OA) (y3:Nat) (w:World) (d:kV w u E T ae X H y3) (a1:(Go.Lib.containsS u.uses u.name || !ji u ig hU)=true) :
 ew 31 #[.agg #[.string u.name,.slice E (Ln u.uses) T,em u.data,.slice ae (Ln u.parts) X,.slice H (Ln u.main) y3]] w fun e r=>pR w u e r/\et w r:=by
 have aE:Hid (lY u = .error 1):=if_pos a1;have aM:Hid (et w ((w.alloc (g5 u.name E (Ln u.uses) T u.data ae (Ln u.parts) X H (Ln u.main) y3)).alloc (hE ⟨#[]⟩ none 0 0 0 none 0 0 none 0 0 none 0 0 0))):=((Below.refl _ _).alloc (eD _) _).alloc (by simp) _;have ao:=hid (ye u.uses u.name E T _ (d.later aM).uses);have S:=hid (CB u E T ae X H y3 _ (d.later aM));have ai:=d.uses.bound
 cases Q:Go.Lib.containsS u.uses u.name with
 | true=>
   rw [Q] at ao;clear a1 d S Q;go_enter func31,ntmps31;go_wp2_with fail;refine ao.mono ?_;rintro e r ⟨rfl,rfl⟩;go_wp2_with fail;refine bodyPost_ret (v:=.tuple #[.agg #[.string ⟨#[]⟩,eu,em 0,eu,eu,eu,em 0],em 1]) (by simp [results,results31,go_sem]) rfl ⟨by unfold pR;rw [aE.out],?_⟩;exact aM
 | false=>
   rw [Q] at ao a1
   have m:ji u ig hU=false:=by simpa using a1
   rw [m] at S;clear a1 d Q m;go_enter func31,ntmps31;go_wp2_with fail;refine ao.mono ?_;rintro e r ⟨rfl,rfl⟩;go_wp2_with fail;refine S.mono ?_;rintro e eC ⟨rfl,a2⟩;have aP:=hid (es aM a2)
   have N:eC.heap[w.heap.size+1]? = some (hE ⟨#[]⟩ none 0 0 0 none 0 0 none 0 0 none 0 0 0):=by
    have G:=eT (w.alloc (g5 u.name E (Ln u.uses) T u.data ae (Ln u.parts) X H (Ln u.main) y3)) (hE ⟨#[]⟩ none 0 0 0 none 0 0 none 0 0 none 0 0 0);rw [qs] at G;exact (a2.block (w.heap.size+1) (by simp)).trans G
   obtain ⟨av,an,aD,aR,b3,q5,q6,aV⟩:=f6 N;have a0:=lt_of_heap N
   have ag:∀ j,eC.frozen? ⟨w.heap.size+1,j,none⟩=false:=fun j=>ih N j
   clear a2 N;go_wp2_with fail;refine bodyPost_ret (v:=.tuple #[.agg #[.string ⟨#[]⟩,eu,em 0,eu,eu,eu,em 0],em 1]) (by simp [results,results31,go_sem,av,an,aD,aR,b3,q5,q6,a0]) rfl ⟨by unfold pR;rw [aE.out],?_⟩;exact yg aP (by omega) _ _ _ _ _ _ _
theorem Tryz.infoInt:(prog.info? 3).map (fun i=>(i.zero,i.size,i.bytes))=some (some (em 0),1,8):=by kernel_rfl
theorem eS.new {w0:World} (F:et w0 w) (aA:∀ x ∈ K,w.heap[x.1]? = some x.2):eS w0 (w.alloc (.cells #[eu,eu] 136)) w.heap.size K sX:=
 ⟨eD _,_,_,{
  blk:=eT _ _
  hR:=F.size
  code:=ko _ _ _ _
  fix:=ko _ _ _ _
  apt:=mK.nil _
  nc:=fun e=>by simp [Value.ownBlock] at e
  nf:=fun e=>by simp [Value.ownBlock] at e
  below:=F.alloc F.size _
  kp:=fun x Q=>⟨fF (aA x Q),fun e=>by have:=lt_of_heap (aA x Q);omega,fun e=>by simp [Value.ownBlock] at e,fun e=>by simp [Value.ownBlock] at e⟩}⟩
theorem yh (h:ie u=true):Ln u.uses<=3:=by
 unfold ie at h;rw [fs] at h;exact (sJ (uC (of_decide_eq_true h.1))).1
theorem uZ {n:Nat} {b:Nat} (h:M.ownsRow B e p v n ae) (F:v.ownBlock≠some b) (Z aK aN aY be P t:Value) :
 (((((((M.setCell (ep b 0) Z).setCell (ep b 1) aK).setCell (ep b 2) aN).setCell (ep b 3) aY).setCell (ep b 4) be).setCell (ep b 5) P).setCell (ep b 6) t).ownsRow B e p v n ae:=by
 refine il h (fun k N=>?_)
 have aV:k≠b:=fun e=>F (by rw [N,e])
 rw [fa (p:=(ep b 6)) aV,fa (p:=(ep b 5)) aV,fa (p:=(ep b 4)) aV,fa (p:=(ep b 3)) aV,fa (p:=(ep b 2)) aV,fa (p:=(ep b 1)) aV,fa (p:=(ep b 0)) aV]
theorem KB {B':Nat} {n:Nat} (h:M.ownsRow B e p v n ae) (F:B'<=B):M.ownsRow B' e p v n ae:=by
 refine ⟨h.1,?_⟩
 rcases h.2 with G | ⟨g,I,o,a7,ab,W⟩
 . exact Or.inl G
 . exact Or.inr ⟨g,I,o,a7,iC F ab,W⟩
theorem hr.has {w0:World} {s:eK} {t:List Int} (h:hr w0 w R K s v t) {b:Nat} (Q:(b,o) ∈ K):w.heap[b]? = some o:=h.wri.has Q
theorem KC (u:ga) (E:OA) (T:Nat) (ae:OA) (X:Nat) (H:OA) (y3:Nat) (w:World) (d:kV w u E T ae X H y3) (a1:Go.Lib.containsS u.uses u.name=false) (m:ji u ig hU=true) :
 ew 31 #[.agg #[.string u.name,.slice E (Ln u.uses) T,em u.data,.slice ae (Ln u.parts) X,.slice H (Ln u.main) y3]] w fun e r=>pR w u e r/\et w r:=by
 have aM:Hid (et w ((w.alloc (g5 u.name E (Ln u.uses) T u.data ae (Ln u.parts) X H (Ln u.main) y3)).alloc (hE ⟨#[]⟩ none 0 0 0 none 0 0 none 0 0 none 0 0 0))):=((Below.refl _ _).alloc (eD _) _).alloc (by simp) _;have ao:=hid (ye u.uses u.name E T _ (d.later aM).uses);have S:=hid (CB u E T ae X H y3 _ (d.later aM));have ai:=d.uses.bound;have a7:=d.parts.bound;have bl:=hid d;have b8:=hid (fun j ac=>yc m j ac);have A:=hid (oU m);have aw:=uY A.2.2;have cg:Ln u.uses<=3:=yh A.2.2;have aH:=hid (yd m)
 have cE:Hid (¬ (Go.Lib.containsS u.uses u.name || !ji u ig hU)=true):=by show ¬ _;rw [a1,m];decide
 rw [a1] at ao;rw [m] at S;clear a1 m d;go_enter func31,ntmps31;go_wp2_with fail;refine ao.mono ?_;rintro e r ⟨rfl,rfl⟩;go_wp2_with fail;refine S.mono ?_;rintro e eC ⟨rfl,a2⟩
 have a6:Hid (∀ x ∈ [(w.heap.size,(g5 u.name E (Ln u.uses) T u.data ae (Ln u.parts) X H (Ln u.main) y3)),(w.heap.size+1,(hE ⟨#[]⟩ none 0 0 0 none 0 0 none 0 0 none 0 0 0))],eC.heap[x.1]? = some x.2):=fun x Q=>by
  have G:=eT (w.alloc (g5 u.name E (Ln u.uses) T u.data ae (Ln u.parts) X H (Ln u.main) y3)) (hE ⟨#[]⟩ none 0 0 0 none 0 0 none 0 0 none 0 0 0);rw [qs] at G;have J:((w.alloc (g5 u.name E (Ln u.uses) T u.data ae (Ln u.parts) X H (Ln u.main) y3)).alloc (hE ⟨#[]⟩ none 0 0 0 none 0 0 none 0 0 none 0 0 0)).heap[w.heap.size]? = some (g5 u.name E (Ln u.uses) T u.data ae (Ln u.parts) X H (Ln u.main) y3):=fF (eT w (g5 u.name E (Ln u.uses) T u.data ae (Ln u.parts) X H (Ln u.main) y3))
  rcases lM.1 Q with rfl | Q
  . exact (a2.block w.heap.size (by simp;omega)).trans J
  . rw [pn] at Q
    subst Q;exact (a2.block (w.heap.size+1) (by simp)).trans G
 have aO:=hid (eS.new (es aM a2) a6);obtain ⟨u0,u1,u2,u3,u4,uf⟩:=fi (a6 (w.heap.size,(g5 u.name E (Ln u.uses) T u.data ae (Ln u.parts) X H (Ln u.main) y3)) (gV ..));have O:=lt_of_heap (a6 (w.heap.size,(g5 u.name E (Ln u.uses) T u.data ae (Ln u.parts) X H (Ln u.main) y3)) (gV ..));clear a2;go_wp2_with fail;clear u0 u1 u2 u3 u4 uf O;generalize bb:eC.heap.size=R at *;generalize U:eC.alloc (.cells #[eu,eu] 136)=eA at *
 go_loopw [5,28] (fun v i wr=>∃ j:Nat,j<=Ln u.parts/\i=em j/\hr w wr R [(w.heap.size,(g5 u.name E (Ln u.uses) T u.data ae (Ln u.parts) X H (Ln u.main) y3)),(w.heap.size+1,(hE ⟨#[]⟩ none 0 0 0 none 0 0 none 0 0 none 0 0 0))] (ir (u.parts.take j)) v (pQ u.parts j)) (fun _ i _=>Ln u.parts - (intOf i).toNat)
 case atStart=>exact ⟨0,eY _,rfl,hr.start aO⟩
 case round=>
  obtain ⟨j,ac,rfl,aq⟩:=hrel;have aP:=hid aq;obtain ⟨b,cu,rfl, -, -⟩:=aq.form;rw [qP] at *;clear aq
  by_cases a0:j<Ln u.parts
  . obtain ⟨V,C,bF,bC,rfl,Q⟩:=bl.parts.pt j a0
    have ab:=aP.wri.below;have ap:V<wr.heap.size:=gl Q.lt ab.size;have D:=(ab.cell (p:=⟨V,C+j*3,none⟩) Q.lt).trans Q.c0;have aZ:=(ab.cell (p:=⟨V,C+j*3+1,none⟩) Q.lt).trans Q.c1;have b6:=(ab.cell (p:=⟨V,C+j*3+2,none⟩) Q.lt).trans Q.c2;have ar:=hid Q.body';have P:=hid (yb u.parts j a0);have b2:=hid (A.1 _ (fO a0));have aJ:=hid (b8 (j+1) (by omega));have a8:=hid (b8 j ac);rw [P.out] at aJ;clear Q ab;generalize u.parts[j]=y at *;have ad:=hid (aP.box (mg y.params y.locals bF (Ln y.body) bC));have ay:=hid ad.own;rw [qP] at ay;go_wp2_with fail;refine (rJ ad.wri).mono ?_;rintro e eJ ⟨rfl,rfl⟩
    go_wp2_with (at_builtin;refine pL rfl (.tmp 32) (.tmp 35) 49 rfl w.heap.size 3 _ 1 8 Tryz.underlying49 Tryz.infoInt rfl (by decide) (wr.alloc (mg y.params y.locals bF (Ln y.body) bC)) (.slice b j cu) j (intV (pQ u.parts j)) rfl ay #[em (ir (u.parts.take j)).code.length] (wr.heap.size+1) (by simp) rfl rfl (by simp;rfl) (by omega) (by decide) ad.wri.below.size _ rfl ?_;intro bs aX eJ aa;have aG:=hid (ad.onto (x:=((ir (u.parts.take j)).code.length:Int)) (by rw [qP];exact aa));rw [qP,← Ky] at aG;obtain ⟨av,an,aD, -⟩:=pG (aG.has (gV ..));clear aa)
    refine (aG.call (fun K' h=>CA (I:=bC) b2 ar h (by have:=aJ.out;omega))).mono ?_;rintro e eZ ⟨rfl,h6'⟩;have a:=hid h6';clear h6' av an aD;go_wp2_with fail;go_roundw
    case rel=>exact ⟨j+1,by omega,by go_num,by rw [P.out];exact a.tail⟩
    case measure=>simp [intOf];omega
  . obtain rfl:j=Ln u.parts:=by omega
    rw [iA] at aP;have bL:=hid (b8 _ (eD _));rw [iA] at bL;obtain ⟨u0,u1,u2,u3,u4,uf⟩:=fi (aP.has (gV ..));go_wp2_with fail;refine (rJ aP.wri).mono ?_;rintro e eJ ⟨rfl,rfl⟩;go_wp2_with fail;refine (aP.call (fun K' h=>CA (p:=⟨0,0,u.main⟩) (I:=y3) A.2.1 bl.main h (by have:=aH.out;unfold iN at this;omega))).mono ?_;rintro e eZ ⟨rfl,h6'⟩;have a:Hid (hr w eZ R [(w.heap.size,(g5 u.name E (Ln u.uses) T u.data ae (Ln u.parts) X H (Ln u.main) y3)),(w.heap.size+1,(hE ⟨#[]⟩ none 0 0 0 none 0 0 none 0 0 none 0 0 0))] (iN u) (.slice b (Ln u.parts) cu) (pQ u.parts (Ln u.parts))):=h6';clear h6' u0 u1 u2 u3 u4 uf;go_wp2_with fail;refine (Cn a.wri).mono ?_
    cases ag:kX (iN u) with
    | true=>
      rintro e eW ⟨rfl,rfl⟩
      have aE:Hid (lY u = .error 2):=by show _=_;unfold lY;rw [if_neg cE.out,if_pos ag]
      have N:=a.has (b:=w.heap.size+1) (gC _ (gV ..));obtain ⟨av,an,aD,aR,b3,q5,q6,aV⟩:=f6 N;have c:=lt_of_heap N
      have aQ:∀ j,eW.frozen? ⟨w.heap.size+1,j,none⟩=false:=fun j=>ih N j
      have bO:=hid a.wri.below;clear N ag;go_wp2_with fail;refine bodyPost_ret (v:=.tuple #[.agg #[.string ⟨#[]⟩,eu,em 0,eu,eu,eu,em 0],em 2]) (by simp [results,results31,go_sem,av,an,aD,aR,b3,q5,q6,c]) rfl ⟨by unfold pR;rw [aE.out],?_⟩;exact yg bO (by omega) _ _ _ _ _ _ _
    | false=>
      rintro e eW ⟨rfl,rfl⟩
      have aE:Hid (lY u = .ok (oT u)):=by show _=_;unfold lY;rw [if_neg cE.out,if_neg (by rw [ag];decide)]
      obtain ⟨u0,u1,u2,u3,u4,uf⟩:=fi (a.has (gV ..));have c1:=lt_of_heap (a.has (gV ..));have Z:=a.has (b:=w.heap.size+1) (gC _ (gV ..));obtain ⟨l,aY,hr8,ho8,hg8⟩:=sM eW.heap.size 22 (eu) 0 [] (ko _ _ _ _) u.uses E T (lT (bl.later a.wri.below).uses).1 (by omega) (eD _);rw [hv,w4] at ho8;have n:et eW aY:=(Below.refl _ eW).grown hg8 (eD _) (fun k N=>by simp [Value.ownBlock] at N);have ah:=hid ho8;have W:=hid hr8;have a3:=a.later n;obtain ⟨L,B,⟨cq,q,Y,aT⟩,hxx⟩:=a3;have z:=(a.later n).own;rw [qP] at z
      have o:=(aT.kp (w.heap.size+1,(hE ⟨#[]⟩ none 0 0 0 none 0 0 none 0 0 none 0 0 0)) (qq _ (gC _ (gV ..))))
      have F:=(aT.kp (w.heap.size,(g5 u.name E (Ln u.uses) T u.data ae (Ln u.parts) X H (Ln u.main) y3)) (qq _ (gV ..))).1;have a5:=hid (hxx (w.heap.size+1,(hE ⟨#[]⟩ none 0 0 0 none 0 0 none 0 0 none 0 0 0)) (gC _ (gV ..)))
      have s:Hid (l.ownBlock≠some (w.heap.size+1)):=fun e=>by
       have G:=(ah.lt _ e).1;have J:=lt_of_heap Z;omega
      have g:=hid aT;have b1:=hid z;have K:=hid o;obtain ⟨p,f,rfl, -⟩:=sN ho8;obtain ⟨aA,bP,rfl, -, -⟩:=im aT.code;obtain ⟨az,t,rfl, -, -⟩:=im aT.fix;obtain ⟨bh,a9, -⟩:=g.cells;have ak:=g.ltR;obtain ⟨av,an,aD,aR,b3,q5,q6,aV⟩:=f6 o.1
      have aQ:∀ j,aY.frozen? ⟨w.heap.size+1,j,none⟩=false:=fun j=>ih o.1 j
      have M:=lt_of_heap o.1;clear n ho8 hg8 hr8 ag B cq aT hxx z Z o
      go_wp2_with (at_builtin;refine Lib.wpList_append_run _ rfl _ _ _ _ rfl _ _ rfl rfl _ aY W ?_)
      clear u0 u1 u2 u3 u4 uf c1;obtain ⟨u0,u1,u2,u3,u4,uf⟩:=fi F;have c1:=lt_of_heap F;clear F;have a4:Hid (w.heap.size<=eW.heap.size):=a.wri.below.size
      go_region
      go_wp2_with fail;refine bodyPost_ret (v:=.tuple #[.agg #[.string u.name,.slice p (Ln u.uses) f,em u.data,.slice aA (iN u).code.length bP,.slice az (iN u).fixes.length t,.slice b (Ln u.parts) cu,em (ir u.parts).code.length],em 0]) (by simp [results,results31,go_sem,av,an,aD,aR,b3,q5,q6,M]) rfl ⟨?_,?_⟩
      . unfold pR
        rw [aE.out];have cr:(oT u).entries.length=Ln u.parts:=qP ..;refine ⟨p,f,aA,bP,az,t,b,cu,by rw [cr];rfl,?_,?_,?_,?_⟩
        . exact (KB (uZ ah s _ _ _ _ _ _ _) a4).drew
        . exact (uZ g.code K.2.2.1 _ _ _ _ _ _ _).drew
        . exact (uZ g.fix K.2.2.2 _ _ _ _ _ _ _).drew
        . rw [cr]
          exact (uZ b1 a5 _ _ _ _ _ _ _).drew
      . exact (yg g.below (by omega) _ _ _ _ _ _ _).drew
theorem KD (u:ga) (E:OA) (T:Nat) (ae:OA) (X:Nat) (H:OA) (y3:Nat) (w:World) (d:kV w u E T ae X H y3) :
 ew 31 #[.agg #[.string u.name,.slice E (Ln u.uses) T,em u.data,.slice ae (Ln u.parts) X,.slice H (Ln u.main) y3]] w fun e r=>pR w u e r/\et w r:=by
 by_cases a1:(Go.Lib.containsS u.uses u.name || !ji u ig hU)=true
 . exact KA u E T ae X H y3 w d a1
 . simp only [rp,jf] at a1
   exact KC u E T ae X H y3 w d a1.1 (by simpa using a1.2)
def fM.ds (i:fM):List D:=[.int i.op,.int i.a,.int i.b]
def lZ (l:List fM):List D:=l.flatMap fM.ds
def gQ.ds (f:gQ):List D:=[.int f.at_,.int f.kind,.int f.m]
def oV (l:List gQ):List D:=l.flatMap gQ.ds
def gS (l:List Int):List D:=l.map D.int
def eO.ds (o:eO):List D:=[.str o.name,.list (Ln o.uses) (fj o.uses),.int o.data,.list (Ln o.code) (lZ o.code),.list (Ln o.fixes) (oV o.fixes),.list (Ln o.entries) (gS o.entries),.int o.main]
structure jk (w:World) (o:eO) (x1:OA) (x3:OA) (x4:OA) (x5:OA):Prop where
 wn:o.name.size<=maxLen
 uses:eE w eV x1 (Ln o.uses) (fj o.uses)
 wd:(Lit.int .i64 o.data).wf=true
 code:eE w eV x3 (Ln o.code) (lZ o.code)
 fixes:eE w eV x4 (Ln o.fixes) (oV o.fixes)
 entries:eE w eV x5 (Ln o.entries) (gS o.entries)
 wm:(Lit.int .i64 o.main).wf=true
theorem jk.later {o:eO} {E H aj al:OA} (h:jk w o E H aj al) (F:et w r):jk r o E H aj al:=
 ⟨h.wn,h.uses.later F,h.wd,h.code.later F,h.fixes.later F,h.entries.later F,h.wm⟩
def j4 (o:eO):Bool:=decide (3<Ln o.uses)||(decide (6<Ln o.entries)||(decide (Ln o.code<1)||decide (2048<Ln o.code)))
def hV (o:eO) (x:Int):Bool:=decide (0<=x/\x<Ln o.code)
theorem CE (s:ByteArray) (w:World) (Z:s.size<=maxLen) :
 ew 131 #[.string s] w fun e r=>e = .returned (.bool (Lx.zbw s.data.toList))/\et w r:=by
 have a6:Hid ((jC [⟨1,0,s⟩] == 0)=Lx.zbw s.data.toList):=by rw [← AY];exact AV ⟨1,0,s⟩ rfl
 have ao:Hid (∀ (eq:World) (n:Nat),n=eq.heap.size->ew 116 #[.slice (some (ep n 0)) 1 1] (eq.alloc (.cells #[em 1,em 0,.string s] 184)) fun e r=>e = .returned (em (jC [⟨1,0,s⟩]))/\et eq r):=
  fun eq n U=>by
   subst U;refine (Check_any _ 1 [⟨1,0,s⟩] _ (AW ⟨1,0,s⟩ eq Z) (by simp)).mono ?_;rintro e r ⟨rfl,F⟩;exact ⟨rfl,((Below.refl _ _).alloc (eD _) _).trans (F.mono (by simp))⟩
 go_enter func131,ntmps131
 go_wp2_with (go_at_call 116;refine (ao _ _ (by simp)).mono ?_;rintro e r ⟨rfl,F⟩)
 go_ret;exact ⟨ret_bool a6,F⟩
theorem CF (o:eO) (s:ByteArray) (E:OA) (L T:Nat) (d:Int) (H:OA) (y3:Nat) (aj:OA) (i y4:Nat) (al:OA) (c6 y5:Nat) (m x:Int) (w:World) (F:Ln o.code<=17592186044416) :
 ew 132 #[.agg #[.string s,.slice E L T,em d,.slice H (Ln o.code) y3,.slice aj i y4,.slice al c6 y5,em m],em x] w fun e r=>e = .returned (.bool (hV o x))/\et w r:=by
 by_cases t:0<=x
 . have z:Hid (hV o x=decide (x<Ln o.code)):=by show _=_;unfold hV;exact decide_eq_decide.2 ⟨fun h=>h.2,fun h=>⟨t,h⟩⟩
   go_enter func132,ntmps132;go_wp2_with fail;go_ret;exact ⟨ret_bool (by first | exact z.symm | (rw [z.out]<;>first | (simp;omega) | (simp [*];done))),ey _ _⟩
 . have z:Hid (hV o x=false):=by show _=_;unfold hV;exact decide_eq_false (fun h=>t h.1)
   have q:x<0:=by omega
   clear t;go_enter func132,ntmps132;go_wp2_with fail;go_ret;exact ⟨ret_bool (by first | exact z.symm | (rw [z.out]<;>first | (simp;omega) | (simp [*];done))),ey _ _⟩
theorem KE (o:eO) (s:ByteArray) (E:OA) (T:Nat) (d:Int) (H:OA) (y3:Nat) (aj:OA) (i y4:Nat) (al:OA) (y5:Nat) (m:Int) (w:World) (G:Ln o.uses<=17592186044416) (S:Ln o.code<=17592186044416) (ap:Ln o.entries<=17592186044416) :
 ew 81 #[.agg #[.string s,.slice E (Ln o.uses) T,em d,.slice H (Ln o.code) y3,.slice aj i y4,.slice al (Ln o.entries) y5,em m]] w fun e r=>e = .returned (.bool (j4 o))/\et w r:=by
 have z:Hid (j4 o=(decide (3<Ln o.uses)||(decide (6<Ln o.entries)||(decide (Ln o.code<1)||decide (2048<Ln o.code))))):=rfl
 by_cases l:3<Ln o.uses
 . have P:Hid (j4 o=true):=by show _=_;rw [z.out,decide_eq_true l];rfl
   have I:(3:Int)<Ln o.uses:=by omega
   go_enter func81,ntmps81;go_wp2_with fail;go_ret;exact ⟨ret_bool (by first | exact P.symm | (rw [P.out]<;>first | (simp;omega) | (simp [*];done))),ey _ _⟩
 by_cases O:6<Ln o.entries
 . have P:Hid (j4 o=true):=by show _=_;rw [z.out,decide_eq_true O,decide_eq_false l];rfl
   have I:¬ (3:Int)<Ln o.uses:=by omega
   have R:(6:Int)<Ln o.entries:=by omega
   go_enter func81,ntmps81;go_wp2_with fail;go_ret;exact ⟨ret_bool (by first | exact P.symm | (rw [P.out]<;>first | (simp;omega) | (simp [*];done))),ey _ _⟩
 have I:¬ (3:Int)<Ln o.uses:=by omega
 have R:¬ (6:Int)<Ln o.entries:=by omega
 by_cases ak:Ln o.code<1
 . have P:Hid (j4 o=true):=by show _=_;rw [z.out,decide_eq_true ak,decide_eq_false l,decide_eq_false O];rfl
   have c:(Ln o.code:Int)<1:=by omega
   clear ak;go_enter func81,ntmps81;go_wp2_with fail;go_ret;exact ⟨ret_bool (by first | exact P.symm | (rw [P.out]<;>first | (simp;omega) | (simp [*];done))),ey _ _⟩
 . have P:Hid (j4 o=decide (2048<Ln o.code)):=by show _=_;rw [z.out,decide_eq_false ak,decide_eq_false l,decide_eq_false O];rfl
   have c:¬ (Ln o.code:Int)<1:=by omega
   clear ak;go_enter func81,ntmps81;go_wp2_with fail;go_ret;exact ⟨ret_bool (by first | exact P.symm | (rw [P.out]<;>first | (simp;omega) | (simp [*];done))),ey _ _⟩
abbrev k0 (o:eO) (a:OA) (b:Nat) (c:OA) (e:Nat) (f:OA) (g:Nat) (h:OA) (i:Nat):Obj:=hE o.name a (Ln o.uses) b o.data c (Ln o.code) e f (Ln o.fixes) g h (Ln o.entries) i o.main
structure KF (w:World) (b o:Nat) (x:fM):Prop where
 lt:b<w.heap.size
 c0:w.cell? (ep b o)=some (em x.op)
 c1:w.cell? ⟨b,o+1,none⟩=some (em x.a)
 c2:w.cell? ⟨b,o+2,none⟩=some (em x.b)
 w0:(Lit.int .i64 x.op).wf=true
 eq:(Lit.int .i64 x.a).wf=true
 w2:(Lit.int .i64 x.b).wf=true
theorem eE.gi {a:OA} {l:List fM} (h:eE w A a (Ln l) (lZ l)) (i:Nat) (X:i<Ln l):∃ V C,a=some (ep V C)/\KF w V (C+i*3) l[i]:=by
 obtain ⟨V,C,ab,F,a1⟩:=h.cell (by omega);generalize Q:l[i]=x;obtain ⟨p,ad,bA⟩:=x
 have g:∀ j o,j<3->(fM.mk p ad bA).ds[j]? = some o->∃ v,w.cell? ⟨V,C+i*3+j,none⟩=some v/\fT w A o v:=fun j o ac ez=>by
  rw [kd];exact a1 (i*3+j) o ((mw fM.ds 3 (fun _=>rfl) l i X j ac).trans (by rw [Q];exact ez))
 obtain ⟨Z,av,b5⟩:=g 0 (.int p) (by omega) (by simp [fM.ds]);obtain ⟨aK,an,aL⟩:=g 1 (.int ad) (by omega) (by simp [fM.ds]);obtain ⟨aN,aD,aU⟩:=g 2 (.int bA) (by omega) (by simp [fM.ds]);obtain ⟨rfl,w0⟩:=hw b5;obtain ⟨rfl,eq⟩:=hw aL;obtain ⟨rfl,w2⟩:=hw aU;exact ⟨V,C,ab,F,av,an,aD,w0,eq,w2⟩
structure KG (w:World) (b o:Nat) (x:gQ):Prop where
 lt:b<w.heap.size
 c0:w.cell? (ep b o)=some (em x.at_)
 c1:w.cell? ⟨b,o+1,none⟩=some (em x.kind)
 c2:w.cell? ⟨b,o+2,none⟩=some (em x.m)
 w0:(Lit.int .i64 x.at_).wf=true
 eq:(Lit.int .i64 x.kind).wf=true
 w2:(Lit.int .i64 x.m).wf=true
theorem eE.gf {a:OA} {l:List gQ} (h:eE w A a (Ln l) (oV l)) (i:Nat) (X:i<Ln l):∃ V C,a=some (ep V C)/\KG w V (C+i*3) l[i]:=by
 obtain ⟨V,C,ab,F,a1⟩:=h.cell (by omega);generalize Q:l[i]=x;obtain ⟨p,ad,bA⟩:=x
 have g:∀ j o,j<3->(gQ.mk p ad bA).ds[j]? = some o->∃ v,w.cell? ⟨V,C+i*3+j,none⟩=some v/\fT w A o v:=fun j o ac ez=>by
  rw [kd];exact a1 (i*3+j) o ((mw gQ.ds 3 (fun _=>rfl) l i X j ac).trans (by rw [Q];exact ez))
 obtain ⟨Z,av,b5⟩:=g 0 (.int p) (by omega) (by simp [gQ.ds]);obtain ⟨aK,an,aL⟩:=g 1 (.int ad) (by omega) (by simp [gQ.ds]);obtain ⟨aN,aD,aU⟩:=g 2 (.int bA) (by omega) (by simp [gQ.ds]);obtain ⟨rfl,w0⟩:=hw b5;obtain ⟨rfl,eq⟩:=hw aL;obtain ⟨rfl,w2⟩:=hw aU;exact ⟨V,C,ab,F,av,an,aD,w0,eq,w2⟩
theorem eE.num {a:OA} {l:List Int} (h:eE w A a (Ln l) (gS l)) (i:Nat) (X:i<Ln l):∃ V C,a=some (ep V C)/\V<w.heap.size/\w.cell? ⟨V,C+i,none⟩=some (em l[i])/\(Lit.int .i64 l[i]).wf=true:=by
 obtain ⟨V,C,ab,F,a1⟩:=h.cell (by omega);obtain ⟨Z,av,b5⟩:=a1 i (.int l[i]) (by simp [gS,X]);obtain ⟨rfl,w0⟩:=hw b5;exact ⟨V,C,ab,F,av,w0⟩
def hb (a b m c:Int):Bool:=decide (0<=a)&&(decide (a<=b)&&(decide (0<=m)&&decide (m<=c)))
def jl (o:eO) (x:Int):Int:=match o.code[x.toNat]? with | some i=>i.a | none=>0
def mL (o:eO) (f:gQ):Bool:=
 if f.kind=1 then hb (jl o f.at_) (Ln o.code) f.m 0
 else if f.kind=2\/f.kind=3 then hb (jl o f.at_) 2048 f.m (Ln o.uses)
 else false
def ju (n:Nat) (q:Nat->Bool):Bool:=(List.range n).all q
theorem iO {n:Nat}:ju n q=true↔∀ i,i<n->q i=true:=by simp [ju]
theorem lu {n:Nat} {i:Nat} (h:i<n) (Q:q i=false):ju n q=false:=by
 cases e:ju n q with
 | false=>rfl
 | true=>rw [iO.1 e i h] at Q;cases Q
theorem lw {j:Nat} (h:∀ k,k<j->q k=true) (Q:q j=true):∀ k,k<j+1->q k=true:=fun k N=>by
 rcases iS k j with G | G
 . exact h k G
 . obtain rfl:k=j:=by omega
   exact Q
theorem va (a b:ByteArray):(a.toList == b.toList)=decide (a=b):=by
 rw [ow];simp only [beq_iff_eq,decide_eq_true_eq]
 constructor
 . intro h
   rw [iB,iB] at h;exact uI h
 . rintro rfl;rfl
def opB (i:fM):Bool:=decide (1<=i.op/\i.op<=22)
def pS (o:eO) (j:Nat):Bool:=match o.code[j]? with | some i=>opB i | none=>true
def nr (o:eO) (j:Nat):Bool:=match o.entries[j]? with | some x=>hV o x | none=>true
def oW (o:eO):Bool:=hV o o.main&&decide (0<=o.data/\o.data<=512)
def hA (o:eO):Bool:=ju (Ln o.code) (pS o)&&(ju (Ln o.entries) (nr o)&&oW o)
def nt (o:eO) (i:Nat):Bool:=match o.uses[i]? with | some x=>Lx.zbw x.data.toList&&(!decide (x=o.name) && !Go.Lib.containsS (o.uses.take i) x) | none=>true
def kk (o:eO):Bool:=Lx.zbw o.name.data.toList&&ju (Ln o.uses) (nt o)
def lx (o:eO):Nat->Int
 | 0=>-1
 | j+1=>match o.fixes[j]? with | some f=>f.at_ | none=>-1
def kl (o:eO) (j:Nat):Bool:=match o.fixes[j]? with | some f=>decide (lx o j<f.at_)&&(hV o f.at_&&mL o f) | none=>true
def km (o:eO):Bool:=ju (Ln o.fixes) (kl o)
def gd (o:eO):Int:=if j4 o=true then 2 else if (kk o&&(hA o&&km o))=true then 0 else 1
theorem CG (o:eO):hA o=(ju (Ln o.code) (pS o)&&(ju (Ln o.entries) (nr o)&&oW o)):=rfl
theorem KH (o:eO) (E:OA) (T:Nat) (H:OA) (y3:Nat) (aj:OA) (y4:Nat) (al:OA) (y5:Nat) (w:World) (aQ:jk w o E H aj al) :
 ew 83 #[.agg #[.string o.name,.slice E (Ln o.uses) T,em o.data,.slice H (Ln o.code) y3,.slice aj (Ln o.fixes) y4,.slice al (Ln o.entries) y5,em o.main]] w fun e r=>e = .returned (.bool (hA o))/\et w r:=by
 have a2:=aQ.code.bound;have b5:=aQ.entries.bound;have aG:=hid aQ;have A:=hid (fun (x:Int) (M:World)=>CF o o.name E (Ln o.uses) T o.data H y3 aj (Ln o.fixes) y4 al (Ln o.entries) y5 o.main x M a2);clear aQ;go_enter func83,ntmps83;go_wp2_with fail
 go_loopw [10] (fun i wr=>∃ j:Nat,j<=Ln o.code/\i=em j/\(∀ k,k<j->pS o k=true)/\et w wr/\wr.heap[w.heap.size]? = some (k0 o E T H y3 aj y4 al y5)) (fun i _=>Ln o.code - (intOf i).toNat)
 case atStart=>exact ⟨0,eY _,rfl,fun k N=>absurd N (jU k),ey _ _,eT w (k0 o E T H y3 aj y4 al y5)⟩
 case round=>
  obtain ⟨j,ac,rfl,aO,F,ab⟩:=hrel;obtain ⟨av,an,aD,aR,b3,q5,q6,_⟩:=f6 ab;have aV:=lt_of_heap ab;have ad:=hid F;have aN:=hid ab;have b8:=hid aO;clear aO ab F
  by_cases a0:j<Ln o.code
  . obtain ⟨V,C,rfl,Q⟩:=(aG.later ad).code.gi j a0
    have aH:Hid (pS o j=opB o.code[j]):=by show _=_;unfold pS;rw [gb a0]
    have p:=hid (fun (h:opB o.code[j]=false)=>(by rw [CG,lu a0 (aH.out.trans h)];rfl:hA o=false));have P:=hid (fun (h:opB o.code[j]=true)=>lw b8 (aH.trans h));obtain ⟨ap,a6,be,fE,_,_,_⟩:=Q;generalize o.code[j]=y at *
    by_cases l:y.op<1
    . have n:=hid (p (by unfold opB;exact decide_eq_false (by omega)))
      go_wp2_with fail;go_ret;exact ⟨ret_bool (by first | exact n.symm | (rw [n.out]<;>first | (simp;omega) | (simp [*];done))),es ad (ey _ _)⟩
    by_cases O:22<y.op
    . have n:=hid (p (by unfold opB;exact decide_eq_false (by omega)))
      have I:1<=y.op:=by omega
      clear l;go_wp2_with fail;go_ret;exact ⟨ret_bool (by first | exact n.symm | (rw [n.out]<;>first | (simp;omega) | (simp [*];done))),es ad (ey _ _)⟩
    have a4:=hid (P (by unfold opB;exact decide_eq_true (by omega)))
    have I:1<=y.op:=by omega
    have R:y.op<=22:=by omega
    clear l O;go_wp2_with fail;go_roundw
    case rel=>exact ⟨j+1,by omega,by go_num,a4,es ad (ey _ _),fF aN⟩
    case measure=>simp [intOf];omega
  . obtain rfl:j=Ln o.code:=by omega
    have ao:Hid (hA o=(ju (Ln o.entries) (nr o)&&oW o)):=by show _=_;rw [CG,iO.2 b8.out];rfl
    go_wp2_with fail
    go_loopw [26] (fun i wr=>∃ j:Nat,j<=Ln o.entries/\i=em j/\(∀ k,k<j->nr o k=true)/\et w wr/\wr.heap[w.heap.size]? = some (k0 o E T H y3 aj y4 al y5)) (fun i _=>Ln o.entries - (intOf i).toNat)
    case atStart=>exact ⟨0,eY _,rfl,fun k N=>absurd N (jU k),ad,aN⟩
    case round=>
     clear av an aD aR b3 q5 q6 aV;obtain ⟨j,ac,rfl,aO,F,ab⟩:=hrel;obtain ⟨av,an,aD,aR,b3,q5,q6,_⟩:=f6 ab;have aV:=lt_of_heap ab;have ad:=hid F;have aN:=hid ab;have b8:=hid aO;clear aO ab F
     by_cases a0:j<Ln o.entries
     . obtain ⟨V,C,rfl,ap,a6,_⟩:=(aG.later ad).entries.num j a0
       have aH:Hid (nr o j=hV o o.entries[j]):=by show _=_;unfold nr;rw [gb a0]
       have p:=hid (fun (h:hV o o.entries[j]=false)=>(by rw [ao.out,lu a0 (aH.out.trans h)];rfl:hA o=false));have P:=hid (fun (h:hV o o.entries[j]=true)=>lw b8 (aH.trans h));generalize o.entries[j]=y at *;go_wp2_with fail;refine (A y _).mono ?_;rintro e eq ⟨rfl,ai⟩;have B:=hid (es ad ai);have g:=hid ((ai.block _ aV).trans aN);clear av an aD aR b3 q5 q6 aV ai
       cases az:hV o y with
       | false=>
         have n:=hid (p az);go_wp2_with fail;go_ret;exact ⟨ret_bool (by first | exact n.symm | (rw [n.out]<;>first | (simp;omega) | (simp [*];done))),B⟩
       | true=>
         have a4:=hid (P az);go_wp2_with fail;go_roundw
         case rel=>exact ⟨j+1,by omega,by go_num,a4,B,g⟩
         case measure=>simp [intOf];omega
     . obtain rfl:j=Ln o.entries:=by omega
       have aK:Hid (hA o=(hV o o.main&&decide (0<=o.data/\o.data<=512))):=by show _=_;rw [ao.out,iO.2 b8.out];rfl
       go_wp2_with fail;refine (A o.main _).mono ?_;rintro e eq ⟨rfl,ai⟩;have B:=hid (es ad ai);have g:=hid ((ai.block _ aV).trans aN);clear av an aD aR b3 q5 q6 aV ai;obtain ⟨av,an,aD,aR,b3,q5,q6,_⟩:=f6 g;have aV:=lt_of_heap g
       cases az:hV o o.main with
       | false=>
         have z:Hid (hA o=false):=by show _=_;rw [aK.out,az];rfl
         go_wp2_with fail;go_ret;exact ⟨ret_bool z.symm,B⟩
       | true=>
         by_cases l:0<=o.data
         . have z:Hid (hA o=decide (o.data<=512)):=by show _=_;rw [aK.out,az,ub];exact decide_eq_decide.2 ⟨fun h=>h.2,fun h=>⟨l,h⟩⟩
           go_wp2_with fail;go_ret;exact ⟨ret_bool z.symm,B⟩
         . have z:Hid (hA o=false):=by show _=_;rw [aK.out,az,ub];exact decide_eq_false (fun h=>l h.1)
           have I:o.data<0:=by omega
           clear l;go_wp2_with fail;go_ret;exact ⟨ret_bool z.symm,B⟩
theorem CH (o:eO):kk o=(Lx.zbw o.name.data.toList&&ju (Ln o.uses) (nt o)):=rfl
theorem fB.take {K:Nat->Prop}:∀ {l:List D} {d:List Value},fB w K l d->∀ j,fB w K (l.take j) (d.take j)
 | [],d,h,j=>by unfold fB at h;subst h;simp only [List.take_nil];exact fB.nil
 | o :: y,d,h,0=>by simp only [w7];exact fB.nil
 | o :: y,d,h,j+1=>by
   unfold fB at h;obtain ⟨v,O,rfl,G,J⟩:=h;exact fB.cons G (fB.take J j)
theorem KI {a:OA} {l:List ByteArray} (h:eE w A a (Ln l) (fj l)) (j:Nat):eE w A a (l.take j).length (fj (l.take j)):=by
 obtain ⟨G,J,S⟩:=h
 have e:fj (l.take j)=(fj l).take j:=by simp [fj,List.map_take]
 have U:(fj l).length=Ln l:=by simp [fj]
 refine ⟨by rw [e,ky,ky,U];exact eD _,by rw [e,ky];omega,?_⟩
 rcases S with a6 | ⟨V,C,d,ab,a2,F,a1,Q⟩
 . exact Or.inl (by rw [ky];omega)
 . exact Or.inr ⟨V,C,d.take j,ab,a2,F,fun k u N=>a1 k u (by rw [wW] at N;split at N;exact N;cases N),by rw [e];exact Q.take j⟩
theorem KJ (o:eO) (E:OA) (T:Nat) (H:OA) (y3:Nat) (aj:OA) (y4:Nat) (al:OA) (y5:Nat) (w:World) (aQ:jk w o E H aj al) (S:Ln o.uses<=3) (s:Ln o.uses<=T) :
 ew 82 #[.agg #[.string o.name,.slice E (Ln o.uses) T,em o.data,.slice H (Ln o.code) y3,.slice aj (Ln o.fixes) y4,.slice al (Ln o.entries) y5,em o.main]] w fun e r=>e = .returned (.bool (kk o))/\et w r:=by
 have aG:=hid aQ;have aF:=hid (CE o.name (w.alloc (k0 o E T H y3 aj y4 al y5)) aQ.wn);clear aQ;go_enter func82,ntmps82;go_wp2_with fail;refine aF.mono ?_;rintro e eq ⟨rfl,ai⟩;have B:=hid (es (ey w _) ai);have g:=hid ((ai.block _ (by simp)).trans (eT w (k0 o E T H y3 aj y4 al y5)));clear ai
 cases U:Lx.zbw o.name.data.toList with
 | false=>
   have z:Hid (kk o=false):=by show _=_;rw [CH,U];rfl
   go_wp2_with fail;go_ret;exact ⟨ret_bool z.symm,B⟩
 | true=>
 have ao:Hid (kk o=ju (Ln o.uses) (nt o)):=by show _=_;rw [CH,U];rfl
 clear U;obtain ⟨av,an,aD,aR,b3,q5,q6,_⟩:=f6 g;have aV:=lt_of_heap g;go_wp2_with fail
 go_loopw [12] (fun i wr=>∃ j:Nat,j<=Ln o.uses/\i=em j/\(∀ k,k<j->nt o k=true)/\et w wr/\wr.heap[w.heap.size]? = some (k0 o E T H y3 aj y4 al y5)) (fun i _=>Ln o.uses - (intOf i).toNat)
 case atStart=>exact ⟨0,eY _,rfl,fun k N=>absurd N (jU k),B,g⟩
 case round=>
  clear av an aD aR b3 q5 q6 aV;obtain ⟨j,ac,rfl,aO,F,ab⟩:=hrel;obtain ⟨av,an,aD,aR,b3,q5,q6,_⟩:=f6 ab;have aV:=lt_of_heap ab;have ad:=hid F;have aN:=hid ab;have b8:=hid aO;clear aO ab F
  by_cases a0:j<Ln o.uses
  . obtain ⟨V,C,rfl,ap,a6,aq⟩:=(aG.later ad).uses.str j a0
    have aH:Hid (nt o j=(Lx.zbw o.uses[j].data.toList&&(!decide (o.uses[j]=o.name) && !Go.Lib.containsS (o.uses.take j) o.uses[j]))):=by show _=_;unfold nt;rw [gb a0]
    have p:=hid (fun (h:nt o j=false)=>(by rw [ao.out,lu a0 h]:kk o=false));have P:=hid (fun (h:nt o j=true)=>lw b8 (h));have bl:=hid (fun (M:World) (L:et wr M) (y:Nat)=>(by have h:=ye (o.uses.take j) o.uses[j] (some (ep V C)) y M (KI ((aG.later ad).later L).uses j);rw [ky,t7 ac] at h;exact h:ew 76 #[.slice (some (ep V C)) j y,.string o.uses[j]] M fun e r=>e = .returned (.bool (Go.Lib.containsS (o.uses.take j) o.uses[j]))/\r=M))
    have b6:j<=T:=by omega
    generalize o.uses[j]=x at *;go_wp2_with fail;refine (CE x _ aq).mono ?_;rintro e eq ⟨rfl,ai⟩;have B:=hid (es ad ai);have g:=hid ((ai.block _ aV).trans aN);have ae:=hid (bl eq ai);clear av an aD aR b3 q5 q6 aV ai a6 ap;obtain ⟨av,an,aD,aR,b3,q5,q6,_⟩:=f6 g;have aV:=lt_of_heap g
    cases U:Lx.zbw x.data.toList with
    | false=>
      have z:=hid (p (by rw [aH.out,U];rfl));go_wp2_with fail;go_ret;exact ⟨ret_bool z.symm,B⟩
    | true=>
      by_cases Q:x=o.name
      . have z:=hid (p (by rw [aH.out,U,decide_eq_true Q];rfl))
        have a3:(x.toList == o.name.toList)=true:=(va _ _).trans (decide_eq_true Q);clear Q;go_wp2_with fail;go_ret;exact ⟨ret_bool z.symm,B⟩
      . have a3:(x.toList == o.name.toList)=false:=(va _ _).trans (decide_eq_false Q)
        have a:Hid (nt o j = !Go.Lib.containsS (o.uses.take j) x):=by show _=_;rw [aH.out,U,decide_eq_false Q];simp
        clear Q;go_wp2_with fail;refine (ae _).mono ?_;rintro e w2 ⟨rfl,rfl⟩
        cases a1:Go.Lib.containsS (o.uses.take j) x with
        | true=>
          have z:=hid (p (by rw [a.out,a1];rfl));go_wp2_with fail;go_ret;exact ⟨ret_bool z.symm,B⟩
        | false=>
          have a4:=hid (P (by rw [a.out,a1];rfl));go_wp2_with fail;go_roundw
          case rel=>exact ⟨j+1,by omega,by go_num,a4,B,g⟩
          case measure=>simp [intOf];omega
  . obtain rfl:j=Ln o.uses:=by omega
    have z:Hid (kk o=true):=by show _=_;rw [ao.out,iO.2 b8.out]
    go_wp2_with fail;go_ret;exact ⟨ret_bool z.symm,ad⟩
theorem KK (o:eO) (E:OA) (T:Nat) (H:OA) (y3:Nat) (aj:OA) (y4:Nat) (al:OA) (y5:Nat) (j:Nat) (m:Int) (w:World) (ac:j<Ln o.code) (a1:eE w eV H (Ln o.code) (lZ o.code)) (aI:Ln o.uses<=17592186044416) :
 ew 133 #[.agg #[.string o.name,.slice E (Ln o.uses) T,em o.data,.slice H (Ln o.code) y3,.slice aj (Ln o.fixes) y4,.slice al (Ln o.entries) y5,em o.main],.agg #[em (j:Int),em 1,em m]] w fun e r=>e = .returned (.bool (hb o.code[j].a (Ln o.code:Int) m 0))/\et w r:=by
 have bC:=a1.bound;obtain ⟨V,C,rfl,Q⟩:=a1.gi j ac;obtain ⟨ap,_,aZ,_,_,_,_⟩:=Q;generalize o.code[j].a=a at *;clear a1
 by_cases f:0<=a
 case neg=>
  have z:Hid (hb a (Ln o.code:Int) m 0=false):=by show _=_;simp [hb,f]
  have bH:a<0:=by omega
  clear f;go_enter func133,ntmps133;go_wp2_with fail
  go_region
  go_wp2_with fail;go_ret;exact ⟨ret_bool z.symm,(by first | exact gc _ _ _ | exact (gc _ _ _).drew | exact es (gX _ _) (ey _ _) | exact es (ey _ _) (gX _ _))⟩
 by_cases l:a<=(Ln o.code:Int)
 case neg=>
  have z:Hid (hb a (Ln o.code:Int) m 0=false):=by show _=_;simp [hb,l]
  have L:(Ln o.code:Int)<a:=by omega
  clear l;go_enter func133,ntmps133;go_wp2_with fail
  go_region
  go_wp2_with fail;go_ret;exact ⟨ret_bool z.symm,(by first | exact gc _ _ _ | exact (gc _ _ _).drew | exact es (gX _ _) (ey _ _) | exact es (ey _ _) (gX _ _))⟩
 by_cases O:0<=m
 case neg=>
  have z:Hid (hb a (Ln o.code:Int) m 0=false):=by show _=_;simp [hb,O]
  have K:m<0:=by omega
  clear O;go_enter func133,ntmps133;go_wp2_with fail
  go_region
  go_wp2_with fail;go_ret;exact ⟨ret_bool z.symm,(by first | exact gc _ _ _ | exact (gc _ _ _).drew | exact es (gX _ _) (ey _ _) | exact es (ey _ _) (gX _ _))⟩
 have z:Hid (hb a (Ln o.code:Int) m 0=decide (m<=0)):=by show _=_;simp [hb,f,l,O]
 go_enter func133,ntmps133;go_wp2_with fail
 go_region
 go_wp2_with fail;go_ret;exact ⟨ret_bool z.symm,(by first | exact gc _ _ _ | exact (gc _ _ _).drew | exact es (gX _ _) (ey _ _) | exact es (ey _ _) (gX _ _))⟩
theorem KL (o:eO) (E:OA) (T:Nat) (H:OA) (y3:Nat) (aj:OA) (y4:Nat) (al:OA) (y5:Nat) (j:Nat) (m:Int) (w:World) (ac:j<Ln o.code) (a1:eE w eV H (Ln o.code) (lZ o.code)) (aI:Ln o.uses<=17592186044416) :
 ew 133 #[.agg #[.string o.name,.slice E (Ln o.uses) T,em o.data,.slice H (Ln o.code) y3,.slice aj (Ln o.fixes) y4,.slice al (Ln o.entries) y5,em o.main],.agg #[em (j:Int),em 2,em m]] w fun e r=>e = .returned (.bool (hb o.code[j].a 2048 m (Ln o.uses:Int)))/\et w r:=by
 have bC:=a1.bound;obtain ⟨V,C,rfl,Q⟩:=a1.gi j ac;obtain ⟨ap,_,aZ,_,_,_,_⟩:=Q;generalize o.code[j].a=a at *;clear a1
 by_cases f:0<=a
 case neg=>
  have z:Hid (hb a 2048 m (Ln o.uses:Int)=false):=by show _=_;simp [hb,f]
  have bH:a<0:=by omega
  clear f;go_enter func133,ntmps133;go_wp2_with fail
  go_region
  go_wp2_with fail;go_ret;exact ⟨ret_bool z.symm,(by first | exact gc _ _ _ | exact (gc _ _ _).drew | exact es (gX _ _) (ey _ _) | exact es (ey _ _) (gX _ _))⟩
 by_cases l:a<=2048
 case neg=>
  have z:Hid (hb a 2048 m (Ln o.uses:Int)=false):=by show _=_;simp [hb,l]
  have L:2048<a:=by omega
  clear l;go_enter func133,ntmps133;go_wp2_with fail
  go_region
  go_wp2_with fail;go_ret;exact ⟨ret_bool z.symm,(by first | exact gc _ _ _ | exact (gc _ _ _).drew | exact es (gX _ _) (ey _ _) | exact es (ey _ _) (gX _ _))⟩
 by_cases O:0<=m
 case neg=>
  have z:Hid (hb a 2048 m (Ln o.uses:Int)=false):=by show _=_;simp [hb,O]
  have K:m<0:=by omega
  clear O;go_enter func133,ntmps133;go_wp2_with fail
  go_region
  go_wp2_with fail;go_ret;exact ⟨ret_bool z.symm,(by first | exact gc _ _ _ | exact (gc _ _ _).drew | exact es (gX _ _) (ey _ _) | exact es (ey _ _) (gX _ _))⟩
 have z:Hid (hb a 2048 m (Ln o.uses:Int)=decide (m<=(Ln o.uses:Int))):=by show _=_;simp [hb,f,l,O]
 go_enter func133,ntmps133;go_wp2_with fail
 go_region
 go_wp2_with fail;go_ret;exact ⟨ret_bool z.symm,(by first | exact gc _ _ _ | exact (gc _ _ _).drew | exact es (gX _ _) (ey _ _) | exact es (ey _ _) (gX _ _))⟩
theorem KM (o:eO) (E:OA) (T:Nat) (H:OA) (y3:Nat) (aj:OA) (y4:Nat) (al:OA) (y5:Nat) (j:Nat) (m:Int) (w:World) (ac:j<Ln o.code) (a1:eE w eV H (Ln o.code) (lZ o.code)) (aI:Ln o.uses<=17592186044416) :
 ew 133 #[.agg #[.string o.name,.slice E (Ln o.uses) T,em o.data,.slice H (Ln o.code) y3,.slice aj (Ln o.fixes) y4,.slice al (Ln o.entries) y5,em o.main],.agg #[em (j:Int),em 3,em m]] w fun e r=>e = .returned (.bool (hb o.code[j].a 2048 m (Ln o.uses:Int)))/\et w r:=by
 have bC:=a1.bound;obtain ⟨V,C,rfl,Q⟩:=a1.gi j ac;obtain ⟨ap,_,aZ,_,_,_,_⟩:=Q;generalize o.code[j].a=a at *;clear a1
 by_cases f:0<=a
 case neg=>
  have z:Hid (hb a 2048 m (Ln o.uses:Int)=false):=by show _=_;simp [hb,f]
  have bH:a<0:=by omega
  clear f;go_enter func133,ntmps133;go_wp2_with fail
  go_region
  go_wp2_with fail;go_ret;exact ⟨ret_bool z.symm,(by first | exact gc _ _ _ | exact (gc _ _ _).drew | exact es (gX _ _) (ey _ _) | exact es (ey _ _) (gX _ _))⟩
 by_cases l:a<=2048
 case neg=>
  have z:Hid (hb a 2048 m (Ln o.uses:Int)=false):=by show _=_;simp [hb,l]
  have L:2048<a:=by omega
  clear l;go_enter func133,ntmps133;go_wp2_with fail
  go_region
  go_wp2_with fail;go_ret;exact ⟨ret_bool z.symm,(by first | exact gc _ _ _ | exact (gc _ _ _).drew | exact es (gX _ _) (ey _ _) | exact es (ey _ _) (gX _ _))⟩
 by_cases O:0<=m
 case neg=>
  have z:Hid (hb a 2048 m (Ln o.uses:Int)=false):=by show _=_;simp [hb,O]
  have K:m<0:=by omega
  clear O;go_enter func133,ntmps133;go_wp2_with fail
  go_region
  go_wp2_with fail;go_ret;exact ⟨ret_bool z.symm,(by first | exact gc _ _ _ | exact (gc _ _ _).drew | exact es (gX _ _) (ey _ _) | exact es (ey _ _) (gX _ _))⟩
 have z:Hid (hb a 2048 m (Ln o.uses:Int)=decide (m<=(Ln o.uses:Int))):=by show _=_;simp [hb,f,l,O]
 go_enter func133,ntmps133;go_wp2_with fail
 go_region
 go_wp2_with fail;go_ret;exact ⟨ret_bool z.symm,(by first | exact gc _ _ _ | exact (gc _ _ _).drew | exact es (gX _ _) (ey _ _) | exact es (ey _ _) (gX _ _))⟩
theorem KN (o:eO) (E:OA) (T:Nat) (H:OA) (y3:Nat) (aj:OA) (y4:Nat) (al:OA) (y5:Nat) (g y m:Int) (w:World) (G:y≠1) (J:y≠2) (S:y≠3) (aI:Ln o.uses<=17592186044416) :
 ew 133 #[.agg #[.string o.name,.slice E (Ln o.uses) T,em o.data,.slice H (Ln o.code) y3,.slice aj (Ln o.fixes) y4,.slice al (Ln o.entries) y5,em o.main],.agg #[em g,em y,em m]] w fun e r=>e = .returned (.bool false)/\et w r:=by
 go_enter func133,ntmps133;go_wp2_with fail
 go_region
 go_wp2_with fail;go_ret;exact ⟨rfl,(by first | exact gc _ _ _ | exact (gc _ _ _).drew | exact es (gX _ _) (ey _ _) | exact es (ey _ _) (gX _ _))⟩
theorem KO (o:eO) (E:OA) (T:Nat) (H:OA) (y3:Nat) (aj:OA) (y4:Nat) (al:OA) (y5:Nat) (f:gQ) (w:World) (az:hV o f.at_=true) (a1:eE w eV H (Ln o.code) (lZ o.code)) (aI:Ln o.uses<=17592186044416) :
 ew 133 #[.agg #[.string o.name,.slice E (Ln o.uses) T,em o.data,.slice H (Ln o.code) y3,.slice aj (Ln o.fixes) y4,.slice al (Ln o.entries) y5,em o.main],.agg #[em f.at_,em f.kind,em f.m]] w fun e r=>e = .returned (.bool (mL o f))/\et w r:=by
 obtain ⟨g,y,m⟩:=f;have b:=of_decide_eq_true az;simp only at b
 obtain ⟨j,rfl⟩:∃ j:Nat,g=j:=⟨g.toNat,by omega⟩
 have ac:j<Ln o.code:=by omega
 have ab:jl o (j:Int)=o.code[j].a:=by unfold jl;rw [mT,gb ac]
 unfold mL;simp only [ab]
 by_cases aw:y=1
 . subst aw;exact KK o E T H y3 aj y4 al y5 j m w ac a1 aI
 by_cases aE:y=2
 . subst aE;exact KL o E T H y3 aj y4 al y5 j m w ac a1 aI
 by_cases b4:y=3
 . subst b4;exact KM o E T H y3 aj y4 al y5 j m w ac a1 aI
 . rw [if_neg aw,if_neg (by omega)]
   exact KN o E T H y3 aj y4 al y5 j y m w aw aE b4 aI
end Go.Proofs.YtndkhgakfodldaaGreatDoor
