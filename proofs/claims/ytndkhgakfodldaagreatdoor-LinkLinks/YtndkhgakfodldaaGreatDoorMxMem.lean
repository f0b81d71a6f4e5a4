import Derived.Test.YtndkhgakfodldaaGreatDoorMxLeaf
import Derived.Deep.AppendLies
set_option maxRecDepth 100000
set_option maxHeartbeats 800000
open Go.Proofs.Tryz
open List renaming length → ln
namespace Go.Proofs.YtndkhgakfodldaaGreatDoor
namespace Mx
open Go.RowKit
variable {B R b I m n:Nat} {D L u d x:Value} {T:Nat->Nat} {a:Option Addr} {c:Mc.Cfg} {e:Int} {l:List Int} {s:Mc.St} {w r w0 eq:World} {α:Type}
theorem hid {p:Prop} (h:p):Hid p:=h
def ints (l:List Int):List Value:=l.map (Value.int .i64 ·)
theorem qh (l:List Int):(ints l).length=ln l:=by simp [ints]
theorem zN (a b:List Int):ints (a++b)=ints a++ints b:=by simp [ints]
theorem tD (l:List Int) (n:Nat):(ints l).take n=ints (l.take n):=by simp [ints]
theorem zO (l:List Int):∀ u ∈ ints l,u.oneCell'=true:=fun u aI=>by
 obtain ⟨_,_,rfl⟩:=List.mem_map.1 aI
 rfl
def fz (gs:List (List Int × Int)):List Int:=gs.flatMap (·.1)
theorem wa (gs:List (List Int × Int)) (f:List Int × Int):fz (gs++[f])=fz gs++f.1:=by simp [fz]
def iR:Nat->List (List Int × Int)->List Value
 | _,[]=>[]
 | n,f :: O=>.int .i64 n :: .int .i64 f.2 :: iR (n+f.1.length) O
theorem tE:∀ (n:Nat) (a:List (List Int × Int)),(iR n a).length=ln a*2
 | _,[]=>rfl
 | n,f :: O=>by simp only [iR,List.length_cons,tE _ O];omega
theorem qW:∀ (n:Nat) (a:List (List Int × Int)) (f:List Int × Int),iR n (a++[f])=iR n a++[.int .i64 ((n+(fz a).length:Nat):Int),.int .i64 f.2]
 | n,[],f=>by simp [iR,fz]
 | n,g :: O,f=>by
   simp only [List.cons_append,iR,qW _ O f,fz,List.flatMap_cons,List.length_append];rw [Nat.add_assoc]
theorem EI (n:Nat) (gs:List (List Int × Int)) (f:List Int × Int):(iR n (gs++[f])).take (ln gs*2)=iR n gs:=by
 rw [qW,List.take_append_of_le_length (by rw [tE];exact Nat.le_refl _),List.take_of_length_le (by rw [tE];exact Nat.le_refl _)]
theorem zP:∀ (n:Nat) (a:List (List Int × Int)) (f g:List Int × Int),f.2=g.2->iR n (a++[f])=iR n (a++[g]):=fun n a f g h=>by rw [qW,qW,h]
theorem lt_of_heap {o:Obj} (h:w.heap[b]? = some o):b<w.heap.size:=by
 rcases Nat.lt_or_ge b w.heap.size with q | q
 . exact q
 . simp [Array.getElem?_eq_none q] at h
theorem heap_set {i:Nat} {cs:Array Value} {t:TypeId} {f:Nat × Nat} (h:w.heap[b]? = some (.cells cs t f)) (u:Value):(w.setCell ⟨b,i,none⟩ u).heap[b]? = some (.cells (cs.setIfInBounds i u) t f):=by
 simp [World.setCell,Array.getElem?_modify,h]
structure j7 (w:World) (T:Nat->Nat) (B mark:Nat) (e:TypeId) (sz:Nat) (v:Value) (n:Nat) (xs:List Value):Prop where
 own:w.ownsRow B e sz v n xs
 mark:∀ k,v.ownBlock=some k->T k=mark
section
variable {w r:World} {T C:Nat->Nat} {B b:Nat} {e:TypeId} {p:Nat} {v:Value} {n:Nat} {ae:List Value}
theorem j7.keep (h:j7 w T B b e p v n ae) (N:∀ k,k<w.heap.size->T k=b->r.heap[k]? = w.heap[k]?) (u:∀ k,k<w.heap.size->T k=b->C k=b):j7 r C B b e p v n ae:=by
 have a2:=h.own.lt;refine ⟨⟨h.own.1,?_⟩,fun k f=>u k (a2 k f).2 (h.mark k f)⟩
 rcases h.own.2 with G | ⟨g,I,o,a7,F,af,W⟩
 . exact Or.inl G
 . exact Or.inr ⟨g,I,o,a7,F,(N g (lt_of_heap af) (h.mark g (by rw [a7];rfl))).trans af,W⟩
theorem j7.form (h:j7 w T B b e p v n ae):∃ a I,v = .slice a n I/\n<=I/\I<=maxLen:=by
 rcases h.own.2 with ⟨G,J⟩ | ⟨g,I,o,a7,_,_,S,a6,_⟩
 . exact ⟨none,0,by rw [J];exact G,by omega,by unfold maxLen;omega⟩
 . exact ⟨_,I,a7,S,a6⟩
theorem j7.place (h:j7 w T B b e p v n ae) (U:0<n):∃ g I,v = .slice (some ⟨g,0,none⟩) n I/\n<=I/\I<=maxLen/\B<=g/\g<w.heap.size/\T g=b/\(∀ j,w.frozen? ⟨g,j,none⟩=false)/\(∀ j u,ae[j]? = some u->w.cell? ⟨g,j,none⟩=some u):=by
 rcases h.own.2 with ⟨_,J⟩ | ⟨g,I,o,a7,F,af,S,a6,_⟩
 . omega
 . refine ⟨g,I,a7,S,a6,F,lt_of_heap af,h.mark g (by rw [a7];rfl),fun j=>Lib.frozen_of_heap af j,fun j u aI=>?_⟩
   have:=h.own.cells (g:=g) (by rw [a7];rfl) j u aI;rw [show (⟨g,0,none⟩:Addr).add j=⟨g,j,none⟩ from by unfold Addr.add;split<;>simp_all] at this;exact this
theorem j7.cut (h:j7 w T B b e p v n ae) (a8:m<=n) (a7:v = .slice a n I):j7 w T B b e p (.slice a m I) m (ae.take (m*p)):=by
 have aT:=h.own.1;refine ⟨⟨by rw [List.length_take,aT];exact Nat.min_eq_left (Nat.mul_le_mul_right _ a8),?_⟩,fun k N=>h.mark k (by rw [a7];exact (show Value.ownBlock (.slice a n I)=Value.ownBlock (.slice a m I) from by cases a<;>rfl).trans N)⟩
 rcases h.own.2 with ⟨G,J⟩ | ⟨g,f,o,G,F,af,S,a6,ap,aw⟩
 . rw [a7] at G
   cases G
   obtain rfl:m=0:=by omega
   exact Or.inl ⟨rfl,rfl⟩
 . rw [a7] at G
   cases G;refine Or.inr ⟨g,I,o,rfl,F,af,by omega,a6,ap,?_⟩;rw [← aw,List.take_take,Nat.min_eq_left (Nat.mul_le_mul_right _ a8)]
end
def wb (w:World) (B:Nat) (v:Value) (f:List Mc.Ins):Prop:=
 ∃ b C I,v = .slice (some ⟨b,C,none⟩) (ln f) I/\b<B/\∀ i (h:i<ln f),
   w.cell? ⟨b,C+i*3,none⟩=some (.int .i64 f[i].op)/\w.cell? ⟨b,C+i*3+1,none⟩=some (.int .i64 f[i].a)/\w.cell? ⟨b,C+i*3+2,none⟩=some (.int .i64 f[i].b)
def qX (w:World) (B:Nat) (v:Value) (l:List Int):Prop:=
 ∃ a I,v = .slice a (ln l) I/\ln l<=I/\I<=maxLen/\(l=[]\/∃ b C,a=some ⟨b,C,none⟩/\b<B/\∀ i (h:i<ln l),w.cell? ⟨b,C+i,none⟩=some (.int .i64 l[i]))
def fit64 (n:Int):Prop:=-9223372036854775808<=n/\n<=9223372036854775807
structure tF (c:Mc.Cfg):Prop where
 mt:c.mt<=2000
 ms:c.ms<=134217728
 len:ln c.code<=2048
 ops:∀ i ∈ c.code,1<=i.op/\i.op<=22/\fit64 i.a/\fit64 i.b
structure Vs where
 cv:Value
 st:Value
 lo:Value
 fr:Value
 da:Value
 iv:Value
 ou:Value
structure eX (B R:Nat) (c:Mc.Cfg) (w0 w:World) (T:Nat->Nat) (v:Vs) (s:Mc.St):Prop where
 blk:w.heap[R]? = some (.cells #[v.cv,.int .i64 s.pc,v.st,v.lo,v.fr,v.da,v.iv,v.ou,.int .i64 c.mt,.int .i64 s.ticks,.int .i64 c.ms,.int .i64 s.steps,.int .i64 s.en] 168 (0,0))
 hR:B<=R
 tR:T R=1
 st:j7 w T B 2 3 1 v.st (ln s.stack) (ints s.stack)
 lo:j7 w T B 3 3 1 v.lo (fz s.gs++s.lo).length (ints (fz s.gs++s.lo))
 fr:j7 w T B 4 231 2 v.fr (ln s.gs+1) (iR 0 (s.gs++[(s.lo,s.bk)]))
 da:j7 w T B 5 3 1 v.da (ln s.data) (ints s.data)
 ou:j7 w T B 6 3 1 v.ou (ln s.out) (ints s.out)
 below:Below B w0 w
 cfg:tF c
 code:wb w0 B v.cv c.code
 inp:qX w0 B v.iv s.inp
 bst:ln s.stack<=2048
 bgs:ln s.gs<=24
 bfr:∀ f ∈ s.gs,f.1.length<=2048
 blo:ln s.lo<=2048
 bda:ln s.data<=512
 bou:ln s.out<=200
 bin:ln s.inp<=64
 tk:0<=s.ticks/\s.ticks<=c.mt
 sp:0<=s.steps/\s.steps<=c.ms
section
variable {B R:Nat} {c:Mc.Cfg} {w0 w r:World} {T:Nat->Nat} {v:Vs} {s:Mc.St}
theorem eX.ltR (h:eX B R c w0 w T v s):R<w.heap.size:=lt_of_heap h.blk
theorem eX.cell (h:eX B R c w0 w T v s):w.cell? ⟨R,0,none⟩=some v.cv/\w.cell? ⟨R,1,none⟩=some (.int .i64 s.pc)/\w.cell? ⟨R,2,none⟩=some v.st/\w.cell? ⟨R,3,none⟩=some v.lo/\w.cell? ⟨R,4,none⟩=some v.fr/\w.cell? ⟨R,5,none⟩=some v.da/\w.cell? ⟨R,6,none⟩=some v.iv/\w.cell? ⟨R,7,none⟩=some v.ou/\w.cell? ⟨R,8,none⟩=some (.int .i64 c.mt)/\w.cell? ⟨R,9,none⟩=some (.int .i64 s.ticks)/\w.cell? ⟨R,10,none⟩=some (.int .i64 c.ms)/\w.cell? ⟨R,11,none⟩=some (.int .i64 s.steps)/\w.cell? ⟨R,12,none⟩=some (.int .i64 s.en)/\(∀ j,w.frozen? ⟨R,j,none⟩=false):=by
 refine ⟨?_,?_,?_,?_,?_,?_,?_,?_,?_,?_,?_,?_,?_,fun j=>Lib.frozen_of_heap h.blk j⟩<;>(rw [Lib.cell_of_heap h.blk];rfl)
theorem we:∀ (a:List (List Int × Int)),(∀ f ∈ a,f.1.length<=2048)->(fz a).length<=ln a*2048
 | [],_=>by simp [fz]
 | f :: O,h=>by
   have:=we O (fun g af=>h g (List.mem_cons_of_mem _ af));have a3:=h f (List.mem_cons_self ..);simp only [fz,List.flatMap_cons,List.length_append,List.length_cons] at this ⊢;omega
theorem eX.locals_le (h:eX B R c w0 w T v s):(fz s.gs++s.lo).length<=51200:=by
 have:=we s.gs h.bfr;have G:=h.bgs;have J:=h.blo;rw [List.length_append];have S:ln s.gs*2048<=24*2048:=Nat.mul_le_mul_right _ G;omega
theorem eX.later (h:eX B R c w0 w T v s) (F:Below w.heap.size w r) (ab:B<=w.heap.size):eX B R c w0 r T v s:=
 { h with
   blk:=(F.block R h.ltR).trans h.blk
   st:=h.st.keep (fun k N _=>F.block k N) (fun _ _ e=>e)
   lo:=h.lo.keep (fun k N _=>F.block k N) (fun _ _ e=>e)
   fr:=h.fr.keep (fun k N _=>F.block k N) (fun _ _ e=>e)
   da:=h.da.keep (fun k N _=>F.block k N) (fun _ _ e=>e)
   ou:=h.ou.keep (fun k N _=>F.block k N) (fun _ _ e=>e)
   below:=h.below.trans (F.mono ab) }
theorem eX.hB (h:eX B R c w0 w T v s):B<=w.heap.size:=Nat.le_trans h.hR (Nat.le_of_lt h.ltR)
theorem eX.alloc (h:eX B R c w0 w T v s) (o:Obj):eX B R c w0 (w.alloc o) T v s:=h.later ((Below.refl _ _).alloc (Nat.le_refl _) o) h.hB
theorem eX.drew (h:eX B R c w0 w T v s):eX B R c w0 w.drew T v s:=h.later (Below.refl _ _).drew h.hB
theorem eX.setN (h:eX B R c w0 w T v s) (j:Nat) (x:Value) (s':Mc.St)
 (F:(#[v.cv,.int .i64 s.pc,v.st,v.lo,v.fr,v.da,v.iv,v.ou,.int .i64 c.mt,.int .i64 s.ticks,.int .i64 c.ms,.int .i64 s.steps,.int .i64 s.en].setIfInBounds j x:Array Value)=#[v.cv,.int .i64 s'.pc,v.st,v.lo,v.fr,v.da,v.iv,v.ou,.int .i64 c.mt,.int .i64 s'.ticks,.int .i64 c.ms,.int .i64 s'.steps,.int .i64 s'.en])
 (aw:s'.stack=s.stack) (aE:s'.gs=s.gs) (b4:s'.lo=s.lo) (b8:s'.bk=s.bk) (u:s'.data=s.data) (aP:s'.inp=s.inp) (a:s'.out=s.out)
 (tk:0<=s'.ticks/\s'.ticks<=c.mt) (b:0<=s'.steps/\s'.steps<=c.ms):eX B R c w0 (w.setCell ⟨R,j,none⟩ x) T v s':=by
 have N:∀ m,m≠1->∀ k,k<w.heap.size->T k=m->(w.setCell ⟨R,j,none⟩ x).heap[k]? = w.heap[k]?:=fun m a8 k _ e=>
  Below.heap_setCell w ⟨R,j,none⟩ x k (fun A=>by subst A;exact a8 (e.symm.trans h.tR))
 exact {
  blk:=by rw [heap_set h.blk,F]
  hR:=h.hR,tR:=h.tR
  st:=by rw [aw];exact h.st.keep (N 2 (by decide)) (fun _ _ e=>e)
  lo:=by rw [aE,b4];exact h.lo.keep (N 3 (by decide)) (fun _ _ e=>e)
  fr:=by rw [aE,b4,b8];exact h.fr.keep (N 4 (by decide)) (fun _ _ e=>e)
  da:=by rw [u];exact h.da.keep (N 5 (by decide)) (fun _ _ e=>e)
  ou:=by rw [a];exact h.ou.keep (N 6 (by decide)) (fun _ _ e=>e)
  below:=h.below.setCell (p:=⟨R,j,none⟩) h.hR x
  cfg:=h.cfg,code:=h.code
  inp:=by rw [aP];exact h.inp
  bst:=by rw [aw];exact h.bst
  bgs:=by rw [aE];exact h.bgs
  bfr:=by rw [aE];exact h.bfr
  blo:=by rw [b4];exact h.blo
  bda:=by rw [u];exact h.bda
  bou:=by rw [a];exact h.bou
  bin:=by rw [aP];exact h.bin
  tk:=tk,sp:=b }
theorem eX.setEn (h:eX B R c w0 w T v s) (e:Int):eX B R c w0 (w.setCell ⟨R,12,none⟩ (.int .i64 e)) T v { s with en:=e }:=
 h.setN 12 _ _ rfl rfl rfl rfl rfl rfl rfl rfl h.tk h.sp
theorem eX.setPc (h:eX B R c w0 w T v s) (e:Int):eX B R c w0 (w.setCell ⟨R,1,none⟩ (.int .i64 e)) T v { s with pc:=e }:=
 h.setN 1 _ _ rfl rfl rfl rfl rfl rfl rfl rfl h.tk h.sp
theorem eX.setTicks (h:eX B R c w0 w T v s) (e:Int) (a3:0<=e) (G:e<=c.mt):eX B R c w0 (w.setCell ⟨R,9,none⟩ (.int .i64 e)) T v { s with ticks:=e }:=
 h.setN 9 _ _ rfl rfl rfl rfl rfl rfl rfl rfl ⟨a3,G⟩ h.sp
theorem eX.setSteps (h:eX B R c w0 w T v s) (e:Int) (a3:0<=e) (G:e<=c.ms):eX B R c w0 (w.setCell ⟨R,11,none⟩ (.int .i64 e)) T v { s with steps:=e }:=
 h.setN 11 _ _ rfl rfl rfl rfl rfl rfl rfl rfl h.tk ⟨a3,G⟩
theorem eX.setIn (h:eX B R c w0 w T v s) (x:Value) (l:List Int) (X:qX w0 B x l) (a2:ln l<=64):eX B R c w0 (w.setCell ⟨R,6,none⟩ x) T { v with iv:=x } { s with inp:=l }:=by
 have N:∀ m,m≠1->∀ k,k<w.heap.size->T k=m->(w.setCell ⟨R,6,none⟩ x).heap[k]? = w.heap[k]?:=fun m a8 k _ e=>
  Below.heap_setCell w ⟨R,6,none⟩ x k (fun A=>by subst A;exact a8 (e.symm.trans h.tR))
 exact { h with
  blk:=by rw [heap_set h.blk];rfl
  st:=h.st.keep (N 2 (by decide)) (fun _ _ e=>e)
  lo:=h.lo.keep (N 3 (by decide)) (fun _ _ e=>e)
  fr:=h.fr.keep (N 4 (by decide)) (fun _ _ e=>e)
  da:=h.da.keep (N 5 (by decide)) (fun _ _ e=>e)
  ou:=h.ou.keep (N 6 (by decide)) (fun _ _ e=>e)
  below:=h.below.setCell (p:=⟨R,6,none⟩) h.hR x
  inp:=X
  bin:=a2 }
theorem eX.rest (h:eX B R c w0 w T v s) (a8:∀ k,d.ownBlock=some k->T k=m/\B<=k) (ci:m≠1) (af:w.grownBy eq d.ownBlock) (j:Nat) (x:Value) :
 (∀ k,k<w.heap.size->T k≠m->k≠R->(eq.setCell ⟨R,j,none⟩ x).heap[k]? = w.heap[k]?)/\eq.heap[R]? = w.heap[R]?/\Below B w0 (eq.setCell ⟨R,j,none⟩ x):=by
 have bb:eq.heap[R]? = w.heap[R]?:=af.block R h.ltR (fun e=>ci (by rw [← (a8 R e.symm).1];exact h.tR));refine ⟨fun k N aj aV=>?_,bb,?_⟩
 . rw [Below.heap_setCell eq ⟨R,j,none⟩ x k aV]
   exact af.block k N (fun e=>aj (a8 k e.symm).1)
 . exact (h.below.grown af h.hB (fun k e=>(a8 k e).2)).setCell (p:=⟨R,j,none⟩) h.hR x
def mj (w:World) (T:Nat->Nat) (m:Nat):Nat->Nat:=fun k=>if w.heap.size<=k then m else T k
theorem ja (m a:Nat):∀ k,k<w.heap.size->T k=a->mj w T m k=a:=fun k N e=>by
 unfold mj;rw [if_neg (by omega)];exact e
theorem eX.row (h:eX B R c w0 w T v s) {e:TypeId} {p:Nat} {ae:List Value} (a8:∀ k,d.ownBlock=some k->T k=m) (ci:m≠1) (aa:eq.ownsRow B e p x n ae)
 (a5:∀ k,x.ownBlock=some k->k<w.heap.size->d.ownBlock=some k) (j:Nat) (y:Value):j7 (eq.setCell ⟨R,j,none⟩ y) (mj w T m) B m e p x n ae:=by
 have a0:=h.ltR
 have a:∀ k,x.ownBlock=some k->mj w T m k=m:=by
  intro k e
  by_cases N:w.heap.size<=k
  . unfold mj;rw [if_pos N]
  . exact ja m m k (by omega) (a8 k (a5 k e (by omega)))
 refine ⟨⟨aa.1,?_⟩,a⟩
 rcases aa.2 with G | ⟨g,I,o,a7,q,hgg,W⟩
 . exact Or.inl G
 . refine Or.inr ⟨g,I,o,a7,q,?_,W⟩
   rw [Below.heap_setCell eq ⟨R,j,none⟩ y g ?_]
   . exact hgg
   . intro e
     have A:g=R:=e;subst A;have:=a8 g (a5 g (by rw [a7];rfl) a0);rw [h.tR] at this;exact ci this.symm
theorem eX.keeps (h:eX B R c w0 w T v s) {j:Nat} (N:∀ k,k<w.heap.size->T k≠m->k≠R->(eq.setCell ⟨R,j,none⟩ x).heap[k]? = w.heap[k]?) :
 ∀ a,a≠1->a≠m->∀ k,k<w.heap.size->T k=a->(eq.setCell ⟨R,j,none⟩ x).heap[k]? = w.heap[k]?:=fun a G J k f e=>
 N k f (by rw [e];exact J) (fun A=>by subst A;exact G (e.symm.trans h.tR))
theorem eX.setSt (h:eX B R c w0 w T v s) (af:w.grownBy eq v.st.ownBlock) (aa:eq.ownsRow B 3 1 x (ln l) (ints l))
 (a5:∀ k,x.ownBlock=some k->k<w.heap.size->v.st.ownBlock=some k) (a2:ln l<=2048) :
 eX B R c w0 (eq.setCell ⟨R,2,none⟩ x) (mj w T 2) { v with st:=x } { s with stack:=l }:=by
 obtain ⟨N,bb,F⟩:=h.rest (m:=2) (fun k e=>⟨h.st.mark k e,(h.st.own.lt k e).1⟩) (by decide) af 2 x;have a:=h.keeps N
 exact { h with
  blk:=by rw [heap_set (bb.trans h.blk)];rfl
  tR:=ja 2 1 R h.ltR h.tR
  st:=h.row (fun k e=>h.st.mark k e) (by decide) aa a5 2 x
  lo:=h.lo.keep (a 3 (by decide) (by decide)) (ja 2 3)
  fr:=h.fr.keep (a 4 (by decide) (by decide)) (ja 2 4)
  ou:=h.ou.keep (a 6 (by decide) (by decide)) (ja 2 6)
  da:=h.da.keep (a 5 (by decide) (by decide)) (ja 2 5)
  below:=F
  bst:=a2 }
theorem eX.setLo (h:eX B R c w0 w T v s) (af:w.grownBy eq v.lo.ownBlock) (aa:eq.ownsRow B 3 1 x (fz s.gs++l).length (ints (fz s.gs++l)))
 (a5:∀ k,x.ownBlock=some k->k<w.heap.size->v.lo.ownBlock=some k) (a2:ln l<=2048) :
 eX B R c w0 (eq.setCell ⟨R,3,none⟩ x) (mj w T 3) { v with lo:=x } { s with lo:=l }:=by
 obtain ⟨N,bb,F⟩:=h.rest (m:=3) (fun k e=>⟨h.lo.mark k e,(h.lo.own.lt k e).1⟩) (by decide) af 3 x;have a:=h.keeps N
 exact { h with
  blk:=by rw [heap_set (bb.trans h.blk)];rfl
  tR:=ja 3 1 R h.ltR h.tR
  st:=h.st.keep (a 2 (by decide) (by decide)) (ja 3 2)
  lo:=h.row (fun k e=>h.lo.mark k e) (by decide) aa a5 3 x
  fr:=by
   have:=h.fr.keep (a 4 (by decide) (by decide)) (ja (T:=T) 3 4);rw [zP 0 s.gs (s.lo,s.bk) (l,s.bk) rfl] at this;exact this
  ou:=h.ou.keep (a 6 (by decide) (by decide)) (ja 3 6)
  da:=h.da.keep (a 5 (by decide) (by decide)) (ja 3 5)
  below:=F
  blo:=a2 }
theorem eX.setOu (h:eX B R c w0 w T v s) (af:w.grownBy eq v.ou.ownBlock) (aa:eq.ownsRow B 3 1 x (ln l) (ints l))
 (a5:∀ k,x.ownBlock=some k->k<w.heap.size->v.ou.ownBlock=some k) (a2:ln l<=200) :
 eX B R c w0 (eq.setCell ⟨R,7,none⟩ x) (mj w T 6) { v with ou:=x } { s with out:=l }:=by
 obtain ⟨N,bb,F⟩:=h.rest (m:=6) (fun k e=>⟨h.ou.mark k e,(h.ou.own.lt k e).1⟩) (by decide) af 7 x;have a:=h.keeps N
 exact { h with
  blk:=by rw [heap_set (bb.trans h.blk)];rfl
  tR:=ja 6 1 R h.ltR h.tR
  st:=h.st.keep (a 2 (by decide) (by decide)) (ja 6 2)
  lo:=h.lo.keep (a 3 (by decide) (by decide)) (ja 6 3)
  fr:=h.fr.keep (a 4 (by decide) (by decide)) (ja 6 4)
  ou:=h.row (fun k e=>h.ou.mark k e) (by decide) aa a5 7 x
  da:=h.da.keep (a 5 (by decide) (by decide)) (ja 6 5)
  below:=F
  bou:=a2 }
theorem eX.setFr (h:eX B R c w0 w T v s) {gs:List (List Int × Int)} {b:Int} (af:w.grownBy eq v.fr.ownBlock) (aa:eq.ownsRow B 231 2 x (ln gs+1) (iR 0 (gs++[(l,b)])))
 (a5:∀ k,x.ownBlock=some k->k<w.heap.size->v.fr.ownBlock=some k) (a2:ln l<=2048) (d:ln gs<=24) (g:∀ f ∈ gs,f.1.length<=2048) (cq:fz gs++l=fz s.gs++s.lo) :
 eX B R c w0 (eq.setCell ⟨R,4,none⟩ x) (mj w T 4) { v with fr:=x } { s with gs:=gs,lo:=l,bk:=b }:=by
 obtain ⟨N,bb,F⟩:=h.rest (m:=4) (fun k e=>⟨h.fr.mark k e,(h.fr.own.lt k e).1⟩) (by decide) af 4 x;have a:=h.keeps N
 exact { h with
  blk:=by rw [heap_set (bb.trans h.blk)];rfl
  tR:=ja 4 1 R h.ltR h.tR
  st:=h.st.keep (a 2 (by decide) (by decide)) (ja 4 2)
  lo:=by
   have:=h.lo.keep (a 3 (by decide) (by decide)) (ja (T:=T) 4 3);rw [← cq] at this;exact this
  fr:=h.row (fun k e=>h.fr.mark k e) (by decide) aa a5 4 x
  ou:=h.ou.keep (a 6 (by decide) (by decide)) (ja 4 6)
  da:=h.da.keep (a 5 (by decide) (by decide)) (ja 4 5)
  below:=F
  blo:=a2
  bgs:=d
  bfr:=g }
end
open Go.RowKit
def fb (B R:Nat) (c:Mc.Cfg) (w0 w:World) (s:Mc.St):Prop:=∃ T v,eX B R c w0 w T v s
def eP (B R:Nat) (c:Mc.Cfg) (w0:World) (O:Mc.Res α) (g:α->Value) (e:Ending) (r:World):Prop:=
 match O with
 | .ok a s=>e = .returned (g a)/\fb B R c w0 r s
 | .stop s=>e = .panicked (kr s.en)/\fb B R c w0 r s
def fW (_:Unit):Value:=.tuple #[]
def intV (n:Int):Value:=.int .i64 n
theorem wg:(prog.info? 3).map (fun i=>(i.zero,i.size,i.bytes))=some (some (.int .i64 0),1,8):=by kernel_rfl
theorem EJ:(prog.info? 231).map (fun i=>(i.zero,i.size,i.bytes))=some (some (.agg #[.int .i64 0,.int .i64 0]),2,16):=by kernel_rfl
theorem grown_refl (w:World) (O:Option Nat):w.grownBy w O:=⟨rfl,rfl,rfl,Nat.le_refl _,fun _ _ _=>rfl⟩
theorem eP.ok {O:Mc.Res α} {g:α->Value} {a:α} (W:O = .ok a s) (aI:u=g a) (h:fb B R c w0 r s):eP B R c w0 O g (.returned u) r:=by
 subst W;subst aI;exact ⟨rfl,h⟩
theorem eP.stop {O:Mc.Res α} {g:α->Value} (W:O = .stop s) (ah:e=s.en) (h:fb B R c w0 r s):eP B R c w0 O g (.panicked (kr e)) r:=by
 subst W;subst ah;exact ⟨rfl,h⟩
theorem eX.far {v:Vs} (h:eX B R c w0 w T v s) (a8:∀ k,d.ownBlock=some k->T k=m) (ci:m≠1) (af:w.grownBy eq d.ownBlock) :
 (∀ j,eq.cell? ⟨R,j,none⟩=w.cell? ⟨R,j,none⟩)/\(∀ j,eq.frozen? ⟨R,j,none⟩=false)/\R<eq.heap.size:=by
 have e:eq.heap[R]? = w.heap[R]?:=af.block R h.ltR (fun e=>ci (by rw [← a8 R e.symm];exact h.tR));exact ⟨fun j=>World.cell?_of_block (w:=w) e,fun j=>(World.frozen?_of_block (w:=w) e).trans (h.cell.2.2.2.2.2.2.2.2.2.2.2.2.2 j),Nat.lt_of_lt_of_le h.ltR af.size⟩
theorem eX.drewN {v:Vs} (h:eX B R c w0 w T v s) (n:Nat):eX B R c w0 (w.drewN n) T v s:=h.later ⟨rfl,rfl,rfl,Nat.le_refl _,fun _ _=>rfl⟩ h.hB
theorem zQ (l:List Int) (n:Int):ints l++[.int .i64 n]=ints (l++[n]):=by simp [ints]
theorem len_snoc (l:List α) (n:α):(l++[n]).length=ln l+1:=by simp
theorem wh {g H:Nat} {o:Option Nat} (h:o=some g\/g=H):∀ k,Value.ownBlock (.slice (some ⟨g,0,none⟩) n I)=some k->k<H->o=some k:=by
 intro k N a0
 have e:g=k:=by simpa [Value.ownBlock] using N
 subst e
 rcases h with h | h
 . exact h
 . omega
theorem n9 (B R:Nat) (c:Mc.Cfg) (w0:World) (s:Mc.St) (n:Int) (w:World) (h:fb B R c w0 w s) :
 Calls prog 221 #[.pointer (some ⟨R,0,none⟩),.int .i64 n] w (eP B R c w0 (Mc.push n s) fW):=by
 obtain ⟨T,⟨q,E,K,fr,Y,y,ou⟩,h⟩:=h;obtain ⟨bx,X,al,b0,bl⟩:=info_parts wg;obtain ⟨a,I,a7,ay,hmax⟩:=h.st.form;simp only at a7;subst a7;have aq:Hid (eX B R c w0 w T ⟨q,.slice a (ln s.stack) I,K,fr,Y,y,ou⟩ s):=h;obtain ⟨-, -,a4, -, -, -, -, -, -, -, -, -,m,ag⟩:=h.cell;simp only at a4;unfold maxLen at hmax;have b:=h.bst;have ak:=h.ltR;clear h
 by_cases a2:ln s.stack<2048
 . have A:Hid (Mc.push n s = .ok () { s with stack:=s.stack++[n] }):=if_pos a2
   go_enter func221,ntmps221;go_wp2_with fail;refine (lc _ _ _ (by simp;omega)).mono ?_;rintro e r ⟨rfl,rfl⟩
   go_wp2_with (at_builtin;refine wpList_append_lies _ rfl _ _ _ rfl B 3 bx _ 1 8 Tryz.underlying49 X al b0 bl rfl (by omega) (.slice a (ln s.stack) I) (ln s.stack) (ints s.stack) rfl (aq.alloc _).st.own ⟨_,0,none⟩ 1 1 [.int .i64 n] rfl rfl (cell_one_new _ _ _) (by simp;rfl) (by omega) (by unfold maxLen;omega) (by omega) (by have:=aq.hB;simp;omega) _ rfl ?_;intro g f eq hown1 af a5 a0;obtain ⟨t,ff,fl⟩:=(aq.alloc _).far (fun k e=>aq.st.mark k e) (by decide) af;have d:=(t 2).trans (aq.alloc _).cell.2.2.1;have i:=ff 2;have aG:=hid hown1;have aE:=hid af;have P:=hid a5;clear hown1 af a5 t ff)
   go_returns
   exact eP.ok A rfl ⟨_,_,(aq.alloc _).setSt aE (by rw [len_snoc,← zQ];exact aG) (wh P) (by rw [len_snoc];omega)⟩
 . have A:Hid (Mc.push n s = .stop { s with en:=6 }):=if_neg a2
   go_enter func221,ntmps221;go_wp2_with fail;refine (qg R _ _ _ (by simp;omega) m (ag 12)).mono ?_;rintro e r ⟨rfl,rfl⟩;go_wp2_with fail;exact ⟨rfl,eP.stop A rfl ⟨_,_,aq.setEn 6⟩⟩
theorem tG (l:List Int) (k:Nat) (h:k<ln l):(ints l)[k]? = some (.int .i64 (l.getD k 0)):=by
 simp [ints,List.getD_eq_getElem?_getD,List.getElem?_eq_getElem h]
def j8 (B R:Nat) (c:Mc.Cfg) (w0:World) (L D:Value) (O:Mc.Res α) (g:α->Value) (e:Ending) (r:World):Prop:=
 match O with
 | .ok a s=>e = .returned (g a)/\∃ T v,eX B R c w0 r T v s/\v.lo=L/\v.da=D
 | .stop s=>e = .panicked (kr s.en)/\fb B R c w0 r s
theorem j8.ok {O:Mc.Res α} {g:α->Value} {a:α} {v:Vs} (W:O = .ok a s) (aI:u=g a) (h:eX B R c w0 r T v s) (G:v.lo=L) (J:v.da=D):j8 B R c w0 L D O g (.returned u) r:=by
 subst W;subst aI;exact ⟨rfl,T,v,h,G,J⟩
theorem j8.stop {O:Mc.Res α} {g:α->Value} (W:O = .stop s) (ah:e=s.en) (h:fb B R c w0 r s):j8 B R c w0 L D O g (.panicked (kr e)) r:=by
 subst W;subst ah;exact ⟨rfl,h⟩
theorem j8.plain {O:Mc.Res α} {g:α->Value} {e:Ending} (h:j8 B R c w0 L D O g e r):eP B R c w0 O g e r:=by
 cases O with
 | ok a s=>obtain ⟨G,T,v,J,_⟩:=h;exact ⟨G,T,v,J⟩
 | stop s=>exact h
theorem qY (B R:Nat) (c:Mc.Cfg) (w0:World) (s:Mc.St) (w:World) (T:Nat->Nat) (v:Vs) (h:eX B R c w0 w T v s) :
 Calls prog 225 #[.pointer (some ⟨R,0,none⟩)] w (fun e r=>j8 B R c w0 v.lo v.da (Mc.pop s) intV e r/\∀ k,k≠R->r.heap[k]? = w.heap[k]?):=by
 obtain ⟨q,E,K,fr,Y,y,ou⟩:=v;simp only
 by_cases a2:0<ln s.stack
 . obtain ⟨k,N⟩:∃ k,ln s.stack=k+1:=⟨ln s.stack - 1,by omega⟩
   have A:Hid (Mc.pop s = .ok (s.stack.getD k 0) { s with stack:=s.stack.take k }):=by
    show Mc.pop s=_;unfold Mc.pop
    rw [if_pos a2,N];rfl
   obtain ⟨g,I,a7,ay,hmax,hBg,cM,ao,aQ,hcell⟩:=h.st.place a2;simp only at a7;subst a7;have Q:=hcell k _ (tG _ k (by omega));generalize s.stack.getD k 0=x at *;have b:=h.bst;rw [N] at b ay;have a6:Hid (ln s.stack=k+1):=N;have aq:Hid (eX B R c w0 w T ⟨q,.slice (some ⟨g,0,none⟩) (ln s.stack) I,K,fr,Y,y,ou⟩ s):=h;obtain ⟨-, -,a4, -, -, -, -, -, -, -, -, -, -,ag⟩:=h.cell;simp only [N] at a4;unfold maxLen at hmax;clear h hcell a2 N;go_enter func225,ntmps225;go_wp2_with fail;refine (lc _ _ _ (by simp)).mono ?_;rintro e r ⟨rfl,rfl⟩;go_wp2_with fail
   go_returns
   have aT:(s.stack.take k).length=k:=by rw [List.length_take,a6.out];omega
   refine ⟨j8.ok A rfl (aq.setSt (grown_refl _ _) ?_ (fun j e _=>e) (by rw [aT];omega)) rfl rfl,fun k N=>Below.heap_setCell _ _ _ k N⟩;have:=(aq.st.cut (m:=k) (by rw [a6.out];omega) rfl).own;rw [Nat.mul_one,tD] at this;rw [aT];exact this
 . have A:Hid (Mc.pop s = .stop { s with en:=6 }):=if_neg a2
   obtain ⟨a,I,a7,ay,hmax⟩:=h.st.form;simp only at a7;subst a7;have aq:Hid (eX B R c w0 w T ⟨q,.slice a (ln s.stack) I,K,fr,Y,y,ou⟩ s):=h;obtain ⟨-, -,a4, -, -, -, -, -, -, -, -, -,m,ag⟩:=h.cell
   have a3:ln s.stack=0:=by omega
   simp only [a3] at a4;clear h a2 a3 ay;go_enter func225,ntmps225;go_wp2_with fail;refine (qg R _ _ _ (by simp) m (ag 12)).mono ?_;rintro e r ⟨rfl,rfl⟩;go_wp2_with fail;exact ⟨rfl,j8.stop A rfl ⟨_,_,aq.setEn 6⟩,fun k N=>Below.heap_setCell _ _ _ k N⟩
theorem pe (B R:Nat) (c:Mc.Cfg) (w0:World) (s:Mc.St) (w:World) (h:fb B R c w0 w s) :
 Calls prog 225 #[.pointer (some ⟨R,0,none⟩)] w (eP B R c w0 (Mc.pop s) intV):=by
 obtain ⟨T,v,h⟩:=h
 exact (qY B R c w0 s w T v h).mono fun e r h=>h.1.plain
theorem tell_any (B R:Nat) (c:Mc.Cfg) (w0:World) (s:Mc.St) (n:Int) (w:World) (h:fb B R c w0 w s) :
 Calls prog 234 #[.pointer (some ⟨R,0,none⟩),.int .i64 n] w (eP B R c w0 (Mc.tell n s) fW):=by
 obtain ⟨T,⟨q,E,K,fr,Y,y,ou⟩,h⟩:=h;obtain ⟨bx,X,al,b0,bl⟩:=info_parts wg;obtain ⟨a,I,a7,ay,hmax⟩:=h.ou.form;simp only at a7;subst a7;have aq:Hid (eX B R c w0 w T ⟨q,E,K,fr,Y,y,.slice a (ln s.out) I⟩ s):=h;obtain ⟨-, -, -, -, -, -, -,c7, -, -, -, -,m,ag⟩:=h.cell;simp only at c7;unfold maxLen at hmax;have d:=h.bou;have ak:=h.ltR;clear h
 by_cases a2:ln s.out=200
 . have A:Hid (Mc.tell n s = .stop { s with en:=5 }):=if_pos a2
   have F:((ln s.out:Int) == 200)=true:=beq_iff_eq.2 (by omega);clear a2;go_enter func234,ntmps234;go_wp2_with fail;refine (stop_any R _ _ _ m (ag 12)).mono ?_;rintro e r ⟨rfl,rfl⟩;go_wp2_with fail;exact ⟨rfl,eP.stop A rfl ⟨_,_,aq.setEn 5⟩⟩
 . have A:Hid (Mc.tell n s = .ok () { s with out:=s.out++[n] }):=if_neg a2
   have F:((ln s.out:Int) == 200)=false:=beq_eq_false_iff_ne.2 (by omega)
   have j:ln s.out<200:=by omega
   clear a2;go_enter func234,ntmps234
   go_wp2_with (at_builtin;refine wpList_append_lies _ rfl _ _ _ rfl B 3 bx _ 1 8 Tryz.underlying49 X al b0 bl rfl (by omega) (.slice a (ln s.out) I) (ln s.out) (ints s.out) rfl (aq.alloc _).ou.own ⟨_,0,none⟩ 1 1 [.int .i64 n] rfl rfl (cell_one_new _ _ _) (by simp;rfl) (by omega) (by unfold maxLen;omega) (by omega) (by have:=aq.hB;simp;omega) _ rfl ?_;intro g f eq hown1 af a5 a0;obtain ⟨t,ff,fl⟩:=(aq.alloc _).far (fun k e=>aq.ou.mark k e) (by decide) af;have b:=(t 7).trans (aq.alloc _).cell.2.2.2.2.2.2.2.1;have i:=ff 7;have aG:=hid hown1;have aE:=hid af;have P:=hid a5;clear hown1 af a5 t ff)
   go_returns
   exact eP.ok A rfl ⟨_,_,(aq.alloc _).setOu aE (by rw [len_snoc,← zQ];exact aG) (wh P) (by rw [len_snoc];omega)⟩
theorem tick_any (B R:Nat) (c:Mc.Cfg) (w0:World) (s:Mc.St) (w:World) (h:fb B R c w0 w s) :
 Calls prog 232 #[.pointer (some ⟨R,0,none⟩)] w (eP B R c w0 (Mc.tick c.mt s) fW):=by
 obtain ⟨T,v,h⟩:=h;have aq:Hid (eX B R c w0 w T v s):=h;obtain ⟨-, -, -, -, -, -, -, -,c8,L, -, -,m,ag⟩:=h.cell;have Z:=h.tk.1;have J:=h.tk.2;have a:=h.cfg.mt;have ak:=h.ltR;clear h
 by_cases a2:s.ticks=c.mt
 . have A:Hid (Mc.tick c.mt s = .stop { s with en:=3 }):=if_pos a2
   have F:(s.ticks == c.mt)=true:=beq_iff_eq.2 a2;clear a2;go_enter func232,ntmps232;go_wp2_with fail
   go_quiet ((fail))
   go_wp2_with fail;refine (stop_any R _ _ _ (by simpa using m) (by simpa using ag 12)).mono ?_;rintro e r ⟨rfl,rfl⟩;go_wp2_with fail;exact ⟨rfl,eP.stop A rfl ⟨_,_,(aq.drewN _).setEn 3⟩⟩
 . have A:Hid (Mc.tick c.mt s = .ok () { s with ticks:=s.ticks+1 }):=if_neg a2
   have F:(s.ticks == c.mt)=false:=beq_eq_false_iff_ne.2 a2
   have a0:s.ticks<c.mt:=by omega
   clear a2;go_enter func232,ntmps232;go_wp2_with fail
   go_quiet ((fail))
   go_wp2_with fail
   go_returns
   exact eP.ok A rfl ⟨_,_,(aq.drewN _).setTicks _ (by omega) (by omega)⟩
theorem next_any (B R:Nat) (c:Mc.Cfg) (w0:World) (s:Mc.St) (w:World) (h:fb B R c w0 w s) :
 Calls prog 233 #[.pointer (some ⟨R,0,none⟩)] w (eP B R c w0 (Mc.next s) intV):=by
 obtain ⟨T,⟨q,E,K,fr,Y,y,ou⟩,h⟩:=h;obtain ⟨a,I,a7,ay,hmax,hcells⟩:=h.inp;simp only at a7;subst a7;have aq:Hid (eX B R c w0 w T ⟨q,E,K,fr,Y,.slice a (ln s.inp) I,ou⟩ s):=h;obtain ⟨-, -, -, -, -, -,aR, -, -, -, -, -, -,ag⟩:=h.cell;simp only at aR;have ak:=h.ltR;have d:=h.bin;unfold maxLen at hmax
 cases D:s.inp with
 | nil=>
   have A:Hid (Mc.next s = .ok 0 s):=by
    show Mc.next s=_
    have e:{ s with inp:=s.inp.tail }=s:=by rw [D];cases s;simp_all
    unfold Mc.next
    rw [e,D];rfl
   rw [D] at aR;simp only [List.length_nil] at aR;clear h ay hcells d D;go_enter func233,ntmps233;go_wp2_with fail
   go_returns
   exact eP.ok A rfl ⟨_,_,aq⟩
 | cons x O=>
   have A:Hid (Mc.next s = .ok x { s with inp:=O }):=by
    show Mc.next s=_;unfold Mc.next
    rw [D];rfl
   rw [D] at aR d ay hcells
   rcases hcells with a1 | ⟨b,C,rfl,hbB,a1⟩
   . cases a1
   have Q:w.cell? ⟨b,C,none⟩=some (.int .i64 x):=(h.below.cell (p:=⟨b,C,none⟩) hbB).trans (a1 0 (by simp))
   have az:Hid (qX w0 B (.slice (some ⟨b,C+1,none⟩) (ln O) (I - 1)) O):=by
    refine ⟨_,_,rfl,by simp at ay;omega,by unfold maxLen;omega,?_⟩
    cases O with
    | nil=>exact Or.inl rfl
    | cons o O=>exact Or.inr ⟨b,C+1,rfl,hbB,fun i X=>by
     have:=a1 (i+1) (by simp at X ⊢;omega);rw [show C+(i+1)=C+1+i from by omega] at this
     simpa using this⟩
   simp only [List.length_cons] at aR d ay;generalize W:ln O=n at *;have z:Hid (ln O=n):=W;clear h a1 D W
   by_cases aM:I=1
   . subst aM
     obtain rfl:n=0:=by omega
     have f:O=[]:=List.eq_nil_of_length_eq_zero z;subst f;clear az
     have az:Hid (qX w0 B (.slice (some ⟨b,C,none⟩) 0 0) []):=⟨_,_,rfl,Nat.le_refl _,by unfold maxLen;omega,Or.inl rfl⟩
     go_enter func233,ntmps233;go_wp2_with fail
     go_returns
     exact eP.ok A rfl ⟨_,_,aq.setIn _ _ az (by simp)⟩
   . go_enter func233,ntmps233
     go_wp2_with fail
     go_returns
     exact eP.ok A rfl ⟨_,_,aq.setIn _ _ az (by rw [z.out];omega)⟩
open Go.RowKit
def InsFit (i:Mc.Ins):Prop:=fit64 i.a/\fit64 i.b
def ImgAt (w:World) (a:Option Addr) (f:List Mc.Ins):Prop:=
 f=[]\/∃ b C,a=some ⟨b,C,none⟩/\b<w.heap.size/\∀ i (h:i<ln f),
  w.cell? ⟨b,C+i*3,none⟩=some (.int .i64 f[i].op)/\w.cell? ⟨b,C+i*3+1,none⟩=some (.int .i64 f[i].a)/\w.cell? ⟨b,C+i*3+2,none⟩=some (.int .i64 f[i].b)
theorem ImgAt.later {f:List Mc.Ins} (h:ImgAt w a f) (F:Below w.heap.size w r):ImgAt r a f:=by
 rcases h with h | ⟨b,C,e,a2,h⟩
 . exact Or.inl h
 . exact Or.inr ⟨b,C,e,Nat.lt_of_lt_of_le a2 F.size,fun i X=>⟨(F.cell (p:=⟨b,C+i*3,none⟩) a2).trans (h i X).1,(F.cell (p:=⟨b,C+i*3+1,none⟩) a2).trans (h i X).2.1,(F.cell (p:=⟨b,C+i*3+2,none⟩) a2).trans (h i X).2.2⟩⟩
theorem ImgAt.place {f:List Mc.Ins} (h:ImgAt w a f) {k:Nat} (N:k<ln f):∃ b C,a=some ⟨b,C,none⟩/\b<w.heap.size/\
 w.cell? ⟨b,C+k*3,none⟩=some (.int .i64 f[k].op)/\w.cell? ⟨b,C+k*3+1,none⟩=some (.int .i64 f[k].a)/\w.cell? ⟨b,C+k*3+2,none⟩=some (.int .i64 f[k].b):=by
 rcases h with h | ⟨b,C,e,a2,h⟩
 . subst h;simp at N
 . exact ⟨b,C,e,a2,h k N⟩
def opB (i:Mc.Ins):Bool:=decide (1<=i.op)&&decide (i.op<=22)
def jO (f:List Mc.Ins) (d:Int):Int:=
 if ln f<1\/2048<ln f then 2 else if f.all opB then (if d<0\/512<d then 3 else 0) else 4
theorem all_snoc (d:List α) (p:α->Bool) (k:Nat) (h:k<ln d):(d.take (k+1)).all p=((d.take k).all p&&p d[k]):=by
 rw [List.take_succ_eq_append_getElem h,List.all_append];simp
theorem all_not (d:List α) (p:α->Bool) (k:Nat) (h:k<ln d) (az:p d[k]=false):d.all p=false:=by
 rw [List.all_eq_false];exact ⟨d[k],List.getElem_mem _,by simp [az]⟩
theorem Check_any (a:Option Addr) (I:Nat) (f:List Mc.Ins) (d:Int) (w:World) (u:ImgAt w a f) (a2:ln f<=1000000000000000) :
 Calls prog 46 #[.agg #[.slice a (ln f) I,.int .i64 d]] w fun e r=>e = .returned (.int .i64 (jO f d))/\Below w.heap.size w r:=by
 have P:Hid (ImgAt w a f):=u;clear u
 by_cases G:ln f<1\/2048<ln f
 . have p:Hid (jO f d=2):=if_pos G
   have aa:ln f<1\/1<=ln f/\2048<ln f:=by omega
   clear G;generalize (ln f)=n at *
   rcases aa with G | ⟨G,J⟩
   all_goals
    go_enter func46,ntmps46;go_wp2_with fail;go_ret;exact ⟨ret_int p.symm,(Below.refl _ _).alloc (Nat.le_refl _) _⟩
 have U:¬ (ln f)<1:=fun h=>G (Or.inl h)
 have a8:¬ 2048<ln f:=fun h=>G (Or.inr h)
 have c:Hid (jO f d=if f.all opB then (if d<0\/512<d then 3 else 0) else 4):=if_neg G;clear G;go_enter func46,ntmps46;go_wp2_with fail
 go_loopw [18,4] (fun i _ wr=>∃ k:Nat,k<=ln f/\i = .int .i64 k/\(f.take k).all opB=true/\Below (w.heap.size+1) (w.alloc (.cells #[.slice a (ln f) I,.int .i64 d] 81)) wr) (fun i _ _=>ln f - (intOf i).toNat)
 case atStart=>exact ⟨0,Nat.zero_le _,rfl,rfl,Below.refl _ _⟩
 case round=>
  obtain ⟨k,N,rfl,aO,F⟩:=hrel;have ar:=hid aO;have ad:Hid (Below w.heap.size w wr):=((Below.refl _ _).alloc (Nat.le_refl _) _).trans (F.mono (by omega));clear aO
  by_cases a0:k<ln f
  . obtain ⟨b,C,rfl,ap,bh,a9,a4⟩:=(P.later ad).place a0
    have aJ:=hid (all_snoc f opB k a0)
    by_cases M:1<=f[k].op/\f[k].op<=22
    . obtain ⟨m,ho2⟩:=M
      have aG:Hid (opB f[k]=true):=by show opB f[k]=true;simp [opB,m,ho2]
      go_wp2_with fail;go_roundw
      case rel=>exact ⟨k+1,by omega,by go_num,by rw [aJ.out,ar.out,aG.out];rfl,F.alloc (by have:=F.size;simp at this;omega) _⟩
      case measure=>simp [intOf];omega
    . have p:Hid (jO f d=4):=by
       show jO f d=4
       rw [c.out,all_not f opB k a0 (by simp [opB];omega)];rfl
      by_cases D:f[k].op<1
      . clear M
        go_wp2_with fail;go_ret;exact ⟨ret_int p.symm,ad.alloc ad.size _⟩
      . have l:22<f[k].op:=by omega
        clear M;go_wp2_with fail;go_ret;exact ⟨ret_int p.symm,ad.alloc ad.size _⟩
  . have aG:Hid (jO f d=if d<0\/512<d then 3 else 0):=by
     show jO f d=_;have:=ar.out;rw [List.take_of_length_le (by omega)] at this
     rw [c.out,this];rfl
    have bT:wr.cell? ⟨w.heap.size,1,none⟩=some (.int .i64 d):=(F.cell (p:=⟨w.heap.size,1,none⟩) (by simp)).trans (by simp)
    by_cases ez:d<0
    . have p:Hid (jO f d=3):=aG.trans (if_pos (Or.inl ez))
      go_wp2_with fail;go_ret;exact ⟨ret_int p.symm,ad⟩
    . by_cases s:512<d
      . have p:Hid (jO f d=3):=aG.trans (if_pos (Or.inr s))
        go_wp2_with fail;go_ret;exact ⟨ret_int p.symm,ad⟩
      . have p:Hid (jO f d=0):=aG.trans (if_neg (by omega))
        go_wp2_with fail;go_ret;exact ⟨ret_int p.symm,ad⟩
def ml (f:List Mc.Ins) (d:Int) (n:Nat) (b c:Int):Int:=
 if jO f d≠0 then jO f d else if 64<n then 2 else if b<0\/2000<b\/c<0\/134217728<c then 3 else 0
theorem EK (a:Option Addr) (I:Nat) (f:List Mc.Ins) (d:Int) (s:Option Addr) (n o:Nat) (b c:Int) (w:World) (u:ImgAt w a f) (a2:ln f<=1000000000000000) (U:n<=1000000000000000) :
 Calls prog 109 #[.agg #[.slice a (ln f) I,.int .i64 d],.slice s n o,.int .i64 b,.int .i64 c] w fun e r=>e = .returned (.int .i64 (ml f d n b c))/\Below w.heap.size w r:=by
 have P:Hid (ImgAt w a f):=u
 have ao:Hid (∀ w:World,ImgAt w a f->Calls prog 46 #[.agg #[.slice a (ln f) I,.int .i64 d]] w fun e r=>e = .returned (.int .i64 (jO f d))/\Below w.heap.size w r):=fun w h=>Check_any a I f d w h a2
 have aH:Hid (ml f d n b c=if jO f d≠0 then jO f d else if 64<n then 2 else if b<0\/2000<b\/c<0\/134217728<c then 3 else 0):=rfl;clear u;generalize ml f d n b c=L at *;generalize jO f d=i at *
 by_cases a1:i=0
 . subst a1
   by_cases j:64<n
   . have p:Hid (L=2):=aH.trans ((if_neg (by simp)).trans (if_pos j))
     go_enter func109,ntmps109;go_wp2_with fail;refine (ao _ (P.later ((Below.refl _ _).alloc (Nat.le_refl _) _))).mono ?_;rintro e eq ⟨rfl,F⟩;go_wp2_with fail;go_ret;exact ⟨ret_int p.symm,((Below.refl _ _).alloc (Nat.le_refl _) _).trans (F.mono (by simp))⟩
   . have p:Hid (L=if b<0\/2000<b\/c<0\/134217728<c then 3 else 0):=aH.trans ((if_neg (by simp)).trans (if_neg j))
     by_cases W:b<0\/2000<b\/c<0\/134217728<c
     . have a9:Hid (L=3):=p.trans (if_pos W)
       have k:b<0\/(¬ b<0/\2000<b)\/(¬ b<0/\¬ 2000<b/\c<0)\/(¬ b<0/\¬ 2000<b/\¬ c<0/\134217728<c):=by omega
       clear W
       rcases k with G | ⟨G,J⟩ | ⟨G,J,S⟩ | ⟨G,J,S,a6⟩
       all_goals
        go_enter func109,ntmps109;go_wp2_with fail;refine (ao _ (P.later ((Below.refl _ _).alloc (Nat.le_refl _) _))).mono ?_;rintro e eq ⟨rfl,F⟩;go_wp2_with fail;go_ret;exact ⟨ret_int a9.symm,((Below.refl _ _).alloc (Nat.le_refl _) _).trans (F.mono (by simp))⟩
     . have a9:Hid (L=0):=p.trans (if_neg W)
       have G:¬ b<0:=by omega
       have J:¬ 2000<b:=by omega
       have S:¬ c<0:=by omega
       have a6:¬ 134217728<c:=by omega
       clear W;go_enter func109,ntmps109;go_wp2_with fail;refine (ao _ (P.later ((Below.refl _ _).alloc (Nat.le_refl _) _))).mono ?_;rintro e eq ⟨rfl,F⟩;go_wp2_with fail;go_ret;exact ⟨ret_int a9.symm,((Below.refl _ _).alloc (Nat.le_refl _) _).trans (F.mono (by simp))⟩
 . have p:Hid (L=i):=aH.trans (if_pos a1)
   have g:(i != 0)=true:=by rw [bne_iff_ne];exact a1
   clear a1;go_enter func109,ntmps109;go_wp2_with fail;refine (ao _ (P.later ((Below.refl _ _).alloc (Nat.le_refl _) _))).mono ?_;rintro e eq ⟨rfl,F⟩;go_wp2_with fail;go_ret;exact ⟨ret_int p.symm,((Below.refl _ _).alloc (Nat.le_refl _) _).trans (F.mono (by simp))⟩
open Go.RowKit
def jc (d:Nat) (inp:List Int):Mc.St:={ pc:=0,stack:=[],gs:=[],lo:=[],bk:=0,data:=List.replicate d 0,inp:=inp,out:=[],ticks:=0,steps:=0,en:=0 }
def oa (d:Nat):Array Value:=madeCells #[.int .i64 0] d
theorem EL (d:Nat):(oa d).size=d:=size_madeCells _ _
theorem EM (d:Nat):(oa d).toList=ints (List.replicate d 0):=by
 apply List.ext_getElem?
 intro i
 by_cases h:i<d
 . simp [oa,madeCells,ints,h,Nat.mod_one]
 . simp [oa,madeCells,ints,h]
theorem EN:(prog.info? 3).map (fun i=>(i.zero,i.size,i.bytes))=some (some (.int .i64 0),1,8):=by kernel_rfl
theorem EO (d:Nat) (ez:d<=512) (w:World):(Instr.makeSlice 49 (.int .i64 (d:Int)) (.int .i64 (d:Int))).run prog w = .ok (.slice (some ⟨w.heap.size,0,none⟩) d d) (w.alloc (.cells (oa d) 3)):=by
 obtain ⟨bx,X,al,b0,bl⟩:=info_parts EN;have:=run_make (P:=prog) w 49 3 bx _ Tryz.underlying49 X al .i64 .i64 (d:Int) (d:Int) (by omega) (by omega) (by rw [bl];omega) (by omega);rw [this,b0,Nat.mul_one,Int.toNat_natCast]
 rfl
theorem EP {M:World} {i gY d:Nat} {q y:Value} {inp:List Int} (F:Below w.heap.size w M) (hR:w.heap.size<=R) (ag:w.heap.size<=i) (cG:w.heap.size<=gY) (G:R≠i) (J:R≠gY) (S:i≠gY)
 (a:M.heap[R]? = some (.cells #[q,.int .i64 0,.slice none 0 0,.slice none 0 0,.slice (some ⟨i,0,none⟩) 1 1,.slice (some ⟨gY,0,none⟩) d d,y,.slice none 0 0,.int .i64 c.mt,.int .i64 0,.int .i64 c.ms,.int .i64 0,.int .i64 0] 168 (0,0)))
 (N:M.heap[i]? = some (.cells #[.int .i64 0,.int .i64 0] 231 (0,0))) (l:M.heap[gY]? = some (.cells (oa d) 3 (0,0)))
 (a1:tF c) (t:wb w w.heap.size q c.code) (X:qX w w.heap.size y inp) (D:ln inp<=64) (ez:d<=512) (aj:0<=c.mt) (Z:0<=c.ms) :
 eX w.heap.size R c w M (fun k=>if k=R then 1 else if k=i then 4 else if k=gY then 5 else 9) ⟨q,.slice none 0 0,.slice none 0 0,.slice (some ⟨i,0,none⟩) 1 1,.slice (some ⟨gY,0,none⟩) d d,y,.slice none 0 0⟩ (jc d inp) where
 blk:=a
 hR:=hR
 tR:=if_pos rfl
 st:=⟨World.ownsRow_nil _ _ _ _,fun k e=>by cases e⟩
 lo:=⟨World.ownsRow_nil _ _ _ _,fun k e=>by cases e⟩
 fr:=⟨⟨rfl,Or.inr ⟨i,1,_,rfl,ag,N,Nat.le_refl _,by unfold maxLen;omega,rfl,rfl⟩⟩,fun k e=>by
  have e:i=k:=by simpa [Value.ownBlock] using e
  subst e;show (if i=R then 1 else if i=i then 4 else if i=gY then 5 else 9)=4
  rw [if_neg (Ne.symm G),if_pos rfl]⟩
 da:=⟨⟨by rw [qh,Nat.mul_one],Or.inr ⟨gY,d,_,by simp [jc],cG,l,by simp [jc],by unfold maxLen;omega,by rw [EL,Nat.mul_one],by
  rw [Nat.mul_one,EM]
  exact List.take_of_length_le (by rw [qh];exact Nat.le_refl _)⟩⟩,fun k e=>by
  have e:gY=k:=by simpa [Value.ownBlock] using e
  subst e;show (if gY=R then 1 else if gY=i then 4 else if gY=gY then 5 else 9)=5
  rw [if_neg (Ne.symm J),if_neg (Ne.symm S),if_pos rfl]⟩
 ou:=⟨World.ownsRow_nil _ _ _ _,fun k e=>by cases e⟩
 below:=F
 cfg:=a1
 code:=t
 inp:=X
 bst:=by simp [jc]
 bgs:=by simp [jc]
 bfr:=fun f ag=>by simp [jc] at ag
 blo:=by simp [jc]
 bda:=by simp [jc];exact ez
 bou:=by simp [jc]
 bin:=D
 tk:=⟨Int.le_refl _,aj⟩
 sp:=⟨Int.le_refl _,Z⟩
theorem zR (w:World) (I K V a6:Obj):((((w.alloc I).alloc K).alloc V).alloc a6).drew.heap[w.heap.size+1]? = some K/\((((w.alloc I).alloc K).alloc V).alloc a6).drew.heap[w.heap.size+1+1]? = some V/\((((w.alloc I).alloc K).alloc V).alloc a6).drew.heap[w.heap.size+1+1+1]? = some a6/\Below w.heap.size w ((((w.alloc I).alloc K).alloc V).alloc a6).drew:=by
 have e:∀ (v:World) (o:Obj),(v.alloc o).heap=v.heap.push o:=fun _ _=>rfl
 have aE:∀ v:World,v.drew.heap=v.heap:=fun _=>rfl
 refine ⟨?_,?_,?_,((((Below.refl _ _).alloc (Nat.le_refl _) _).alloc (by simp) _).alloc (by simp;omega) _).alloc (by simp;omega) _ |>.drew⟩
 . simp only [e,aE,Array.getElem?_push,Array.size_push]
   rw [if_neg (by omega),if_neg (by omega),if_pos trivial]
 . simp only [e,aE,Array.getElem?_push,Array.size_push]
   rw [if_neg (by omega),if_pos trivial]
 . simp only [e,aE,Array.getElem?_push,Array.size_push]
   rw [if_pos trivial]
theorem EQ (a s:Option Addr) (I n m o d:Nat) (c:Mc.Cfg) (g:List Int) (w:World) (ez:d<=512)
 (a1:tF c) (t:wb w w.heap.size (.slice a n I) c.code) (X:qX w w.heap.size (.slice s m o) g) (D:ln g<=64) (aj:0<=c.mt) (Z:0<=c.ms) :
 Calls prog 110 #[.agg #[.slice a n I,.int .i64 d],.slice s m o,.int .i64 c.mt,.int .i64 c.ms] w fun e r=>∃ R T v,e = .returned (.pointer (some ⟨R,0,none⟩))/\eX w.heap.size R c w r T v (jc d g):=by
 have ao:=EO d ez
 have aJ:Hid (∀ (M:World) (R i gY:Nat),Below w.heap.size w M->w.heap.size<=R->w.heap.size<=i->w.heap.size<=gY->R≠i->R≠gY->i≠gY->
  M.heap[R]? = some (.cells #[.slice a n I,.int .i64 0,.slice none 0 0,.slice none 0 0,.slice (some ⟨i,0,none⟩) 1 1,.slice (some ⟨gY,0,none⟩) d d,.slice s m o,.slice none 0 0,.int .i64 c.mt,.int .i64 0,.int .i64 c.ms,.int .i64 0,.int .i64 0] 168 (0,0))->
  M.heap[i]? = some (.cells #[.int .i64 0,.int .i64 0] 231 (0,0))->M.heap[gY]? = some (.cells (oa d) 3 (0,0))->∃ T v,eX w.heap.size R c w M T v (jc d g)):=fun M R i gY G J S a6 ap aw ah q j B=>⟨_,_,EP G J S a6 ap aw ah q j B a1 t X D ez aj Z⟩
 clear a1 t X D aj Z;go_enter func110,ntmps110;go_wp2_with fail
 go_region
 all_goals
  go_wp2_with fail
  go_returns
 . obtain ⟨ak,au,aI,V⟩:=zR w (.cells #[.slice a n I,.int .i64 (d:Int)] 81) (.cells #[.int .i64 0,.int .i64 0] 231) (.cells (oa d) 3) (.cells #[.slice a n I,.int .i64 0,.slice none 0 0,.slice none 0 0,.slice (some ⟨w.heap.size+1,0,none⟩) 1 1,.slice (some ⟨w.heap.size+1+1,0,none⟩) d d,.slice s m o,.slice none 0 0,.int .i64 c.mt,.int .i64 0,.int .i64 c.ms,.int .i64 0,.int .i64 0] 168)
   obtain ⟨T,v,h⟩:=aJ _ (w.heap.size+1+1+1) (w.heap.size+1) (w.heap.size+1+1) V (by omega) (by omega) (by omega) (by omega) (by omega) (by omega) aI ak au;exact ⟨_,T,v,rfl,h⟩
 . obtain ⟨ak,au,aI,V⟩:=zR w (.cells #[.slice a n I,.int .i64 (d:Int)] 81) (.cells (oa d) 3) (.cells #[.int .i64 0,.int .i64 0] 231) (.cells #[.slice a n I,.int .i64 0,.slice none 0 0,.slice none 0 0,.slice (some ⟨w.heap.size+1+1,0,none⟩) 1 1,.slice (some ⟨w.heap.size+1,0,none⟩) d d,.slice s m o,.slice none 0 0,.int .i64 c.mt,.int .i64 0,.int .i64 c.ms,.int .i64 0,.int .i64 0] 168)
   obtain ⟨T,v,h⟩:=aJ _ (w.heap.size+1+1+1) (w.heap.size+1+1) (w.heap.size+1) V (by omega) (by omega) (by omega) (by omega) (by omega) (by omega) aI au ak;exact ⟨_,T,v,rfl,h⟩
end Mx
end Go.Proofs.YtndkhgakfodldaaGreatDoor
