import Derived.Test.YtndkhgakfodldaaGreatDoorMxLeaf
import Derived.Deep.AppendLies
set_option maxRecDepth 100000
set_option maxHeartbeats 800000
open Go.Proofs.Tryz
namespace Go.Proofs.YtndkhgakfodldaaGreatDoor
namespace Mx
open Go.RowKit
variable {B R b q m n:Nat} {D L u d x:Value} {T:Nat->Nat} {a:Option Addr} {c:Mc.Cfg} {e:Int} {l:List Int} {s:Mc.St} {w G w0 dk:World} {α:Type}
theorem hid {p:Prop} (h:p):Hid p:=h
def ints (l:List Int):List Value:=l.map (Value.int .i64 ·)
theorem qn (l:List Int):(ints l).length=l.length:=by simp [ints]
theorem Bb (a b:List Int):ints (a++b)=ints a++ints b:=by simp [ints]
theorem uw (l:List Int) (n:Nat):(ints l).take n=ints (l.take n):=by simp [ints]
theorem Bc (l:List Int):∀ u ∈ ints l,u.oneCell'=true:=fun u aL=>by
 obtain ⟨_,_,rfl⟩:=List.mem_map.1 aL
 rfl
def eB (gs:List (List Int × Int)):List Int:=gs.flatMap (·.1)
theorem wT (gs:List (List Int × Int)) (f:List Int × Int):eB (gs++[f])=eB gs++f.1:=by simp [eB]
def iC:Nat->List (List Int × Int)->List Value
 | _,[]=>[]
 | n,f :: r=>.int .i64 n :: .int .i64 f.2 :: iC (n+f.1.length) r
theorem ux:∀ (n:Nat) (b:List (List Int × Int)),(iC n b).length=b.length*2
 | _,[]=>rfl
 | n,f :: r=>by simp only [iC,List.length_cons,ux _ r];omega
theorem rz:∀ (n:Nat) (b:List (List Int × Int)) (f:List Int × Int),iC n (b++[f])=iC n b++[.int .i64 ((n+(eB b).length:Nat):Int),.int .i64 f.2]
 | n,[],f=>by simp [iC,eB]
 | n,al :: r,f=>by
   simp only [List.cons_append,iC,rz _ r f,eB,List.flatMap_cons,List.length_append];rw [Nat.add_assoc]
theorem Ha (n:Nat) (gs:List (List Int × Int)) (f:List Int × Int):(iC n (gs++[f])).take (gs.length*2)=iC n gs:=by
 rw [rz,List.take_append_of_le_length (by rw [ux];exact Nat.le_refl _),List.take_of_length_le (by rw [ux];exact Nat.le_refl _)]
theorem Bd:∀ (n:Nat) (b:List (List Int × Int)) (f al:List Int × Int),f.2=al.2->iC n (b++[f])=iC n (b++[al]):=fun n b f al h=>by rw [rz,rz,h]
theorem lt_of_heap {o:Obj} (h:w.heap[b]? = some o):b<w.heap.size:=by
 rcases Nat.lt_or_ge b w.heap.size with a5 | a5
 . exact a5
 . simp [Array.getElem?_eq_none a5] at h
theorem heap_set {i:Nat} {cs:Array Value} {t:TypeId} {f:Nat × Nat} (h:w.heap[b]? = some (.cells cs t f)) (u:Value):(w.setCell ⟨b,i,none⟩ u).heap[b]? = some (.cells (cs.setIfInBounds i u) t f):=by
 simp [World.setCell,Array.getElem?_modify,h]
structure jW (w:World) (T:Nat->Nat) (B mark:Nat) (e:TypeId) (sz:Nat) (v:Value) (n:Nat) (xs:List Value):Prop where
 own:w.ownsRow B e sz v n xs
 mark:∀ k,v.ownBlock=some k->T k=mark
section
variable {w G:World} {T T':Nat->Nat} {B b:Nat} {e:TypeId} {sz:Nat} {v:Value} {n:Nat} {ao:List Value}
theorem jW.keep (h:jW w T B b e sz v n ao) (N:∀ k,k<w.heap.size->T k=b->G.heap[k]? = w.heap[k]?) (H:∀ k,k<w.heap.size->T k=b->T' k=b):jW G T' B b e sz v n ao:=by
 have X:=h.own.lt;refine ⟨⟨h.own.1,?_⟩,fun k f=>H k (X k f).2 (h.mark k f)⟩
 rcases h.own.2 with F | ⟨al,q,o,af,I,ak,Q⟩
 . exact Or.inl F
 . exact Or.inr ⟨al,q,o,af,I,(N al (lt_of_heap ak) (h.mark al Pf)).trans ak,Q⟩
theorem jW.form (h:jW w T B b e sz v n ao):∃ a q,v = .slice a n q/\n<=q/\q<=maxLen:=by
 rcases h.own.2 with ⟨F,J⟩ | ⟨al,q,o,af,_,_,U,aa,_⟩
 . exact ⟨none,0,by rw [J];exact F,N8,Oi⟩
 . exact ⟨_,q,af,U,aa⟩
theorem jW.place (h:jW w T B b e sz v n ao) (Z:0<n):∃ al q,v = .slice (some ⟨al,0,none⟩) n q/\n<=q/\q<=maxLen/\B<=al/\al<w.heap.size/\T al=b/\(∀ j,w.frozen? ⟨al,j,none⟩=false)/\(∀ j u,ao[j]? = some u->w.cell? ⟨al,j,none⟩=some u):=by
 rcases h.own.2 with ⟨_,J⟩ | ⟨al,q,o,af,I,ak,U,aa,_⟩
 . omega
 . refine ⟨al,q,af,U,aa,I,lt_of_heap ak,h.mark al Pf,fun j=>Lib.frozen_of_heap ak j,fun j u aL=>?_⟩
   have:=h.own.cells (g:=al) Pf j u aL;rw [show (⟨al,0,none⟩:Addr).add j=⟨al,j,none⟩ from by unfold Addr.add;split<;>simp_all] at this;exact this
theorem jW.cut (h:jW w T B b e sz v n ao) (a1:m<=n) (af:v = .slice a n q):jW w T B b e sz (.slice a m q) m (ao.take (m*sz)):=by
 have b1:=h.own.1;refine ⟨⟨by rw [List.length_take,b1];exact Nat.min_eq_left (Nat.mul_le_mul_right _ a1),?_⟩,fun k N=>h.mark k (by rw [af];exact (show Value.ownBlock (.slice a n q)=Value.ownBlock (.slice a m q) from by cases a<;>rfl).trans N)⟩
 rcases h.own.2 with ⟨F,J⟩ | ⟨al,f,o,F,I,ak,U,aa,aB,bj⟩
 . rw [af] at F
   cases F
   obtain rfl:m=0:=N8
   exact Or.inl ⟨rfl,rfl⟩
 . rw [af] at F
   cases F;refine Or.inr ⟨al,q,o,rfl,I,ak,N8,aa,aB,?_⟩;rw [← bj,List.take_take,Nat.min_eq_left (Nat.mul_le_mul_right _ a1)]
end
def wU (w:World) (B:Nat) (v:Value) (f:List Mc.Ins):Prop:=
 ∃ b C q,v = .slice (some ⟨b,C,none⟩) f.length q/\b<B/\∀ i (h:i<f.length),
   w.cell? ⟨b,C+i*3,none⟩=some (.int .i64 f[i].op)/\w.cell? ⟨b,C+i*3+1,none⟩=some (.int .i64 f[i].a)/\w.cell? ⟨b,C+i*3+2,none⟩=some (.int .i64 f[i].b)
def rA (w:World) (B:Nat) (v:Value) (l:List Int):Prop:=
 ∃ a q,v = .slice a l.length q/\l.length<=q/\q<=maxLen/\(l=[]\/∃ b C,a=some ⟨b,C,none⟩/\b<B/\∀ i (h:i<l.length),w.cell? ⟨b,C+i,none⟩=some (.int .i64 l[i]))
def fit64 (n:Int):Prop:=-9223372036854775808<=n/\n<=9223372036854775807
structure uy (c:Mc.Cfg):Prop where
 mt:c.mt<=2000
 ms:c.ms<=134217728
 len:c.code.length<=2048
 ops:∀ i ∈ c.code,1<=i.op/\i.op<=22/\fit64 i.a/\fit64 i.b
structure Vs where
 cv:Value
 st:Value
 lo:Value
 fr:Value
 da:Value
 iv:Value
 ou:Value
structure ea (B R:Nat) (c:Mc.Cfg) (w0 w:World) (T:Nat->Nat) (v:Vs) (s:Mc.St):Prop where
 blk:w.heap[R]? = some (.cells #[v.cv,.int .i64 s.pc,v.st,v.lo,v.fr,v.da,v.iv,v.ou,.int .i64 c.mt,.int .i64 s.ticks,.int .i64 c.ms,.int .i64 s.steps,.int .i64 s.en] 168 (0,0))
 hR:B<=R
 tR:T R=1
 st:jW w T B 2 3 1 v.st s.stack.length (ints s.stack)
 lo:jW w T B 3 3 1 v.lo (eB s.gs++s.lo).length (ints (eB s.gs++s.lo))
 fr:jW w T B 4 231 2 v.fr (s.gs.length+1) (iC 0 (s.gs++[(s.lo,s.bk)]))
 da:jW w T B 5 3 1 v.da s.data.length (ints s.data)
 ou:jW w T B 6 3 1 v.ou s.out.length (ints s.out)
 below:Below B w0 w
 cfg:uy c
 code:wU w0 B v.cv c.code
 inp:rA w0 B v.iv s.inp
 bst:s.stack.length<=2048
 bgs:s.gs.length<=24
 bfr:∀ f ∈ s.gs,f.1.length<=2048
 blo:s.lo.length<=2048
 bda:s.data.length<=512
 bou:s.out.length<=200
 bin:s.inp.length<=64
 tk:0<=s.ticks/\s.ticks<=c.mt
 sp:0<=s.steps/\s.steps<=c.ms
section
variable {B R:Nat} {c:Mc.Cfg} {w0 w G:World} {T:Nat->Nat} {v:Vs} {s:Mc.St}
theorem ea.ltR (h:ea B R c w0 w T v s):R<w.heap.size:=lt_of_heap h.blk
theorem ea.cell (h:ea B R c w0 w T v s):w.cell? ⟨R,0,none⟩=some v.cv/\w.cell? ⟨R,1,none⟩=some (.int .i64 s.pc)/\w.cell? ⟨R,2,none⟩=some v.st/\w.cell? ⟨R,3,none⟩=some v.lo/\w.cell? ⟨R,4,none⟩=some v.fr/\w.cell? ⟨R,5,none⟩=some v.da/\w.cell? ⟨R,6,none⟩=some v.iv/\w.cell? ⟨R,7,none⟩=some v.ou/\w.cell? ⟨R,8,none⟩=some (.int .i64 c.mt)/\w.cell? ⟨R,9,none⟩=some (.int .i64 s.ticks)/\w.cell? ⟨R,10,none⟩=some (.int .i64 c.ms)/\w.cell? ⟨R,11,none⟩=some (.int .i64 s.steps)/\w.cell? ⟨R,12,none⟩=some (.int .i64 s.en)/\(∀ j,w.frozen? ⟨R,j,none⟩=false):=by
 refine ⟨?_,?_,?_,?_,?_,?_,?_,?_,?_,?_,?_,?_,?_,fun j=>Lib.frozen_of_heap h.blk j⟩<;>(rw [Lib.cell_of_heap h.blk];rfl)
theorem wV:∀ (b:List (List Int × Int)),(∀ f ∈ b,f.1.length<=2048)->(eB b).length<=b.length*2048
 | [],_=>by simp [eB]
 | f :: r,h=>by
   have:=wV r (fun al ak=>h al (List.mem_cons_of_mem _ ak));have ab:=h f (List.mem_cons_self ..);simp only [eB,List.flatMap_cons,List.length_append,List.length_cons] at this ⊢;omega
theorem ea.locals_le (h:ea B R c w0 w T v s):(eB s.gs++s.lo).length<=51200:=by
 have:=wV s.gs h.bfr;have F:=h.bgs;have J:=h.blo;rw [List.length_append];have U:s.gs.length*2048<=24*2048:=Nat.mul_le_mul_right _ F;omega
theorem ea.later (h:ea B R c w0 w T v s) (I:Below w.heap.size w G) (aF:B<=w.heap.size):ea B R c w0 G T v s:=
 { h with
   blk:=(I.block R h.ltR).trans h.blk
   st:=h.st.keep (fun k N _=>I.block k N) (fun _ _ e=>e)
   lo:=h.lo.keep (fun k N _=>I.block k N) (fun _ _ e=>e)
   fr:=h.fr.keep (fun k N _=>I.block k N) (fun _ _ e=>e)
   da:=h.da.keep (fun k N _=>I.block k N) (fun _ _ e=>e)
   ou:=h.ou.keep (fun k N _=>I.block k N) (fun _ _ e=>e)
   below:=h.below.trans (I.mono aF) }
theorem ea.hB (h:ea B R c w0 w T v s):B<=w.heap.size:=Nat.le_trans h.hR (Nat.le_of_lt h.ltR)
theorem ea.alloc (h:ea B R c w0 w T v s) (o:Obj):ea B R c w0 (w.alloc o) T v s:=h.later ((Below.refl _ _).alloc (Nat.le_refl _) o) h.hB
theorem ea.drew (h:ea B R c w0 w T v s):ea B R c w0 w.drew T v s:=h.later (Below.refl _ _).drew h.hB
theorem ea.setN (h:ea B R c w0 w T v s) (j:Nat) (x:Value) (s':Mc.St)
 (I:(#[v.cv,.int .i64 s.pc,v.st,v.lo,v.fr,v.da,v.iv,v.ou,.int .i64 c.mt,.int .i64 s.ticks,.int .i64 c.ms,.int .i64 s.steps,.int .i64 s.en].setIfInBounds j x:Array Value)=#[v.cv,.int .i64 s'.pc,v.st,v.lo,v.fr,v.da,v.iv,v.ou,.int .i64 c.mt,.int .i64 s'.ticks,.int .i64 c.ms,.int .i64 s'.steps,.int .i64 s'.en])
 (aJ:s'.stack=s.stack) (aI:s'.gs=s.gs) (bq:s'.lo=s.lo) (bo:s'.bk=s.bk) (t:s'.data=s.data) (am:s'.inp=s.inp) (a:s'.out=s.out)
 (tk:0<=s'.ticks/\s'.ticks<=c.mt) (b:0<=s'.steps/\s'.steps<=c.ms):ea B R c w0 (w.setCell ⟨R,j,none⟩ x) T v s':=by
 have N:∀ m,m≠1->∀ k,k<w.heap.size->T k=m->(w.setCell ⟨R,j,none⟩ x).heap[k]? = w.heap[k]?:=fun m a1 k _ e=>
  Below.heap_setCell w ⟨R,j,none⟩ x k (fun a0=>PH)
 exact {
  blk:=by rw [heap_set h.blk,I]
  hR:=h.hR,tR:=h.tR
  st:=by rw [aJ];exact h.st.keep (N 2 Oa) (fun _ _ e=>e)
  lo:=by rw [aI,bq];exact h.lo.keep (N 3 Oa) (fun _ _ e=>e)
  fr:=by rw [aI,bq,bo];exact h.fr.keep (N 4 Oa) (fun _ _ e=>e)
  da:=by rw [t];exact h.da.keep (N 5 Oa) (fun _ _ e=>e)
  ou:=by rw [a];exact h.ou.keep (N 6 Oa) (fun _ _ e=>e)
  below:=h.below.setCell (p:=⟨R,j,none⟩) h.hR x
  cfg:=h.cfg,code:=h.code
  inp:=by rw [am];exact h.inp
  bst:=by rw [aJ];exact h.bst
  bgs:=by rw [aI];exact h.bgs
  bfr:=by rw [aI];exact h.bfr
  blo:=by rw [bq];exact h.blo
  bda:=by rw [t];exact h.bda
  bou:=by rw [a];exact h.bou
  bin:=by rw [am];exact h.bin
  tk:=tk,sp:=b }
theorem ea.setEn (h:ea B R c w0 w T v s) (e:Int):ea B R c w0 (w.setCell ⟨R,12,none⟩ (.int .i64 e)) T v { s with en:=e }:=
 h.setN 12 _ _ rfl rfl rfl rfl rfl rfl rfl rfl h.tk h.sp
theorem ea.setPc (h:ea B R c w0 w T v s) (e:Int):ea B R c w0 (w.setCell ⟨R,1,none⟩ (.int .i64 e)) T v { s with pc:=e }:=
 h.setN 1 _ _ rfl rfl rfl rfl rfl rfl rfl rfl h.tk h.sp
theorem ea.setTicks (h:ea B R c w0 w T v s) (e:Int) (ab:0<=e) (F:e<=c.mt):ea B R c w0 (w.setCell ⟨R,9,none⟩ (.int .i64 e)) T v { s with ticks:=e }:=
 h.setN 9 _ _ rfl rfl rfl rfl rfl rfl rfl rfl ⟨ab,F⟩ h.sp
theorem ea.setSteps (h:ea B R c w0 w T v s) (e:Int) (ab:0<=e) (F:e<=c.ms):ea B R c w0 (w.setCell ⟨R,11,none⟩ (.int .i64 e)) T v { s with steps:=e }:=
 h.setN 11 _ _ rfl rfl rfl rfl rfl rfl rfl rfl h.tk ⟨ab,F⟩
theorem ea.setIn (h:ea B R c w0 w T v s) (x:Value) (l:List Int) (V:rA w0 B x l) (X:l.length<=64):ea B R c w0 (w.setCell ⟨R,6,none⟩ x) T { v with iv:=x } { s with inp:=l }:=by
 have N:∀ m,m≠1->∀ k,k<w.heap.size->T k=m->(w.setCell ⟨R,6,none⟩ x).heap[k]? = w.heap[k]?:=fun m a1 k _ e=>
  Below.heap_setCell w ⟨R,6,none⟩ x k (fun a0=>PH)
 exact { h with
  blk:=by rw [heap_set h.blk];rfl
  st:=h.st.keep (N 2 Oa) (fun _ _ e=>e)
  lo:=h.lo.keep (N 3 Oa) (fun _ _ e=>e)
  fr:=h.fr.keep (N 4 Oa) (fun _ _ e=>e)
  da:=h.da.keep (N 5 Oa) (fun _ _ e=>e)
  ou:=h.ou.keep (N 6 Oa) (fun _ _ e=>e)
  below:=h.below.setCell (p:=⟨R,6,none⟩) h.hR x
  inp:=V
  bin:=X }
theorem ea.rest (h:ea B R c w0 w T v s) (a1:∀ k,d.ownBlock=some k->T k=m/\B<=k) (aq:m≠1) (ak:w.grownBy dk d.ownBlock) (j:Nat) (x:Value) :
 (∀ k,k<w.heap.size->T k≠m->k≠R->(dk.setCell ⟨R,j,none⟩ x).heap[k]? = w.heap[k]?)/\dk.heap[R]? = w.heap[R]?/\Below B w0 (dk.setCell ⟨R,j,none⟩ x):=by
 have H:dk.heap[R]? = w.heap[R]?:=ak.block R h.ltR (fun e=>aq (by rw [← (a1 R e.symm).1];exact h.tR));refine ⟨fun k N ax aX=>?_,H,?_⟩
 . rw [Below.heap_setCell dk ⟨R,j,none⟩ x k aX]
   exact ak.block k N (fun e=>ax (a1 k e.symm).1)
 . exact (h.below.grown ak h.hB (fun k e=>(a1 k e).2)).setCell (p:=⟨R,j,none⟩) h.hR x
def l2 (w:World) (T:Nat->Nat) (m:Nat):Nat->Nat:=fun k=>if w.heap.size<=k then m else T k
theorem iU (m a:Nat):∀ k,k<w.heap.size->T k=a->l2 w T m k=a:=fun k N e=>by
 unfold l2;rw [if_neg N8];exact e
theorem ea.row (h:ea B R c w0 w T v s) {e:TypeId} {sz:Nat} {ao:List Value} (a1:∀ k,d.ownBlock=some k->T k=m) (aq:m≠1) (ap:dk.ownsRow B e sz x n ao)
 (a3:∀ k,x.ownBlock=some k->k<w.heap.size->d.ownBlock=some k) (j:Nat) (y:Value):jW (dk.setCell ⟨R,j,none⟩ y) (l2 w T m) B m e sz x n ao:=by
 have ac:=h.ltR
 have a:∀ k,x.ownBlock=some k->l2 w T m k=m:=by
  intro k e
  by_cases N:w.heap.size<=k
  . unfold l2;rw [if_pos N]
  . exact iU m m k N8 (a1 k (a3 k e N8))
 refine ⟨⟨ap.1,?_⟩,a⟩
 rcases ap.2 with F | ⟨al,q,o,af,l,hgg,Q⟩
 . exact Or.inl F
 . refine Or.inr ⟨al,q,o,af,l,?_,Q⟩
   rw [Below.heap_setCell dk ⟨R,j,none⟩ y al ?_]
   . exact hgg
   . intro e
     have a0:al=R:=e;subst a0;have:=a1 al (a3 al Pf ac);rw [h.tR] at this;exact aq this.symm
theorem ea.keeps (h:ea B R c w0 w T v s) {j:Nat} (N:∀ k,k<w.heap.size->T k≠m->k≠R->(dk.setCell ⟨R,j,none⟩ x).heap[k]? = w.heap[k]?) :
 ∀ a,a≠1->a≠m->∀ k,k<w.heap.size->T k=a->(dk.setCell ⟨R,j,none⟩ x).heap[k]? = w.heap[k]?:=fun a F J k f e=>
 N k f (by rw [e];exact J) (fun a0=>by subst a0;exact F (e.symm.trans h.tR))
theorem ea.setSt (h:ea B R c w0 w T v s) (ak:w.grownBy dk v.st.ownBlock) (ap:dk.ownsRow B 3 1 x l.length (ints l))
 (a3:∀ k,x.ownBlock=some k->k<w.heap.size->v.st.ownBlock=some k) (X:l.length<=2048) :
 ea B R c w0 (dk.setCell ⟨R,2,none⟩ x) (l2 w T 2) { v with st:=x } { s with stack:=l }:=by
 obtain ⟨N,H,I⟩:=h.rest (m:=2) (fun k e=>⟨h.st.mark k e,(h.st.own.lt k e).1⟩) Oa ak 2 x;have a:=h.keeps N
 exact { h with
  blk:=Pm
  tR:=iU 2 1 R h.ltR h.tR
  st:=h.row (fun k e=>h.st.mark k e) Oa ap a3 2 x
  lo:=h.lo.keep (a 3 Oa Oa) (iU 2 3)
  fr:=h.fr.keep (a 4 Oa Oa) (iU 2 4)
  ou:=h.ou.keep (a 6 Oa Oa) (iU 2 6)
  da:=h.da.keep (a 5 Oa Oa) (iU 2 5)
  below:=I
  bst:=X }
theorem ea.setLo (h:ea B R c w0 w T v s) (ak:w.grownBy dk v.lo.ownBlock) (ap:dk.ownsRow B 3 1 x (eB s.gs++l).length (ints (eB s.gs++l)))
 (a3:∀ k,x.ownBlock=some k->k<w.heap.size->v.lo.ownBlock=some k) (X:l.length<=2048) :
 ea B R c w0 (dk.setCell ⟨R,3,none⟩ x) (l2 w T 3) { v with lo:=x } { s with lo:=l }:=by
 obtain ⟨N,H,I⟩:=h.rest (m:=3) (fun k e=>⟨h.lo.mark k e,(h.lo.own.lt k e).1⟩) Oa ak 3 x;have a:=h.keeps N
 exact { h with
  blk:=Pm
  tR:=iU 3 1 R h.ltR h.tR
  st:=h.st.keep (a 2 Oa Oa) (iU 3 2)
  lo:=h.row (fun k e=>h.lo.mark k e) Oa ap a3 3 x
  fr:=by
   have:=h.fr.keep (a 4 Oa Oa) (iU (T:=T) 3 4);rw [Bd 0 s.gs (s.lo,s.bk) (l,s.bk) rfl] at this;exact this
  ou:=h.ou.keep (a 6 Oa Oa) (iU 3 6)
  da:=h.da.keep (a 5 Oa Oa) (iU 3 5)
  below:=I
  blo:=X }
theorem ea.setOu (h:ea B R c w0 w T v s) (ak:w.grownBy dk v.ou.ownBlock) (ap:dk.ownsRow B 3 1 x l.length (ints l))
 (a3:∀ k,x.ownBlock=some k->k<w.heap.size->v.ou.ownBlock=some k) (X:l.length<=200) :
 ea B R c w0 (dk.setCell ⟨R,7,none⟩ x) (l2 w T 6) { v with ou:=x } { s with out:=l }:=by
 obtain ⟨N,H,I⟩:=h.rest (m:=6) (fun k e=>⟨h.ou.mark k e,(h.ou.own.lt k e).1⟩) Oa ak 7 x;have a:=h.keeps N
 exact { h with
  blk:=Pm
  tR:=iU 6 1 R h.ltR h.tR
  st:=h.st.keep (a 2 Oa Oa) (iU 6 2)
  lo:=h.lo.keep (a 3 Oa Oa) (iU 6 3)
  fr:=h.fr.keep (a 4 Oa Oa) (iU 6 4)
  ou:=h.row (fun k e=>h.ou.mark k e) Oa ap a3 7 x
  da:=h.da.keep (a 5 Oa Oa) (iU 6 5)
  below:=I
  bou:=X }
theorem ea.setFr (h:ea B R c w0 w T v s) {gs:List (List Int × Int)} {b:Int} (ak:w.grownBy dk v.fr.ownBlock) (ap:dk.ownsRow B 231 2 x (gs.length+1) (iC 0 (gs++[(l,b)])))
 (a3:∀ k,x.ownBlock=some k->k<w.heap.size->v.fr.ownBlock=some k) (X:l.length<=2048) (i:gs.length<=24) (d:∀ f ∈ gs,f.1.length<=2048) (c4:eB gs++l=eB s.gs++s.lo) :
 ea B R c w0 (dk.setCell ⟨R,4,none⟩ x) (l2 w T 4) { v with fr:=x } { s with gs:=gs,lo:=l,bk:=b }:=by
 obtain ⟨N,H,I⟩:=h.rest (m:=4) (fun k e=>⟨h.fr.mark k e,(h.fr.own.lt k e).1⟩) Oa ak 4 x;have a:=h.keeps N
 exact { h with
  blk:=Pm
  tR:=iU 4 1 R h.ltR h.tR
  st:=h.st.keep (a 2 Oa Oa) (iU 4 2)
  lo:=by
   have:=h.lo.keep (a 3 Oa Oa) (iU (T:=T) 4 3);rw [← c4] at this;exact this
  fr:=h.row (fun k e=>h.fr.mark k e) Oa ap a3 4 x
  ou:=h.ou.keep (a 6 Oa Oa) (iU 4 6)
  da:=h.da.keep (a 5 Oa Oa) (iU 4 5)
  below:=I
  blo:=X
  bgs:=i
  bfr:=d }
end
open Go.RowKit
def ed (B R:Nat) (c:Mc.Cfg) (w0 w:World) (s:Mc.St):Prop:=∃ T v,ea B R c w0 w T v s
def dM (B R:Nat) (c:Mc.Cfg) (w0:World) (r:Mc.Res α) (rep:α->Value) (e:Ending) (G:World):Prop:=
 match r with
 | .ok a s=>e = .returned (rep a)/\ed B R c w0 G s
 | .stop s=>e = .panicked (kf s.en)/\ed B R c w0 G s
def e0 (_:Unit):Value:=.tuple #[]
def intV (n:Int):Value:=.int .i64 n
theorem wW:(prog.info? 3).map (fun i=>(i.zero,i.size,i.bytes))=some (some (.int .i64 0),1,8):=by kernel_rfl
theorem Hb:(prog.info? 231).map (fun i=>(i.zero,i.size,i.bytes))=some (some (.agg #[.int .i64 0,.int .i64 0]),2,16):=by kernel_rfl
theorem grown_refl (w:World) (r:Option Nat):w.grownBy w r:=⟨rfl,rfl,rfl,Nat.le_refl _,fun _ _ _=>rfl⟩
theorem dM.ok {r:Mc.Res α} {rep:α->Value} {a:α} (Q:r = .ok a s) (aL:u=rep a) (h:ed B R c w0 G s):dM B R c w0 r rep (.returned u) G:=by
 subst Q;subst aL;exact ⟨rfl,h⟩
theorem dM.stop {r:Mc.Res α} {rep:α->Value} (Q:r = .stop s) (ar:e=s.en) (h:ed B R c w0 G s):dM B R c w0 r rep (.panicked (kf e)) G:=by
 subst Q;subst ar;exact ⟨rfl,h⟩
theorem ea.far {v:Vs} (h:ea B R c w0 w T v s) (a1:∀ k,d.ownBlock=some k->T k=m) (aq:m≠1) (ak:w.grownBy dk d.ownBlock) :
 (∀ j,dk.cell? ⟨R,j,none⟩=w.cell? ⟨R,j,none⟩)/\(∀ j,dk.frozen? ⟨R,j,none⟩=false)/\R<dk.heap.size:=by
 have e:dk.heap[R]? = w.heap[R]?:=ak.block R h.ltR (fun e=>aq (by rw [← a1 R e.symm];exact h.tR));exact ⟨fun j=>World.cell?_of_block (w:=w) e,fun j=>(World.frozen?_of_block (w:=w) e).trans (h.cell.2.2.2.2.2.2.2.2.2.2.2.2.2 j),Nat.lt_of_lt_of_le h.ltR ak.size⟩
theorem ea.drewN {v:Vs} (h:ea B R c w0 w T v s) (n:Nat):ea B R c w0 (w.drewN n) T v s:=h.later ⟨rfl,rfl,rfl,Nat.le_refl _,fun _ _=>rfl⟩ h.hB
theorem Be (l:List Int) (n:Int):ints l++[.int .i64 n]=ints (l++[n]):=by simp [ints]
theorem len_snoc (l:List α) (n:α):(l++[n]).length=l.length+1:=Oc
theorem wX {g H:Nat} {o:Option Nat} (h:o=some g\/g=H):∀ k,Value.ownBlock (.slice (some ⟨g,0,none⟩) n q)=some k->k<H->o=some k:=by
 intro k N ac
 have e:g=k:=by simpa [Value.ownBlock] using N
 subst e
 rcases h with h | h
 . exact h
 . omega
theorem oo (B R:Nat) (c:Mc.Cfg) (w0:World) (s:Mc.St) (n:Int) (w:World) (h:ed B R c w0 w s) :
 Calls prog 221 #[.pointer (some ⟨R,0,none⟩),.int .i64 n] w (dM B R c w0 (Mc.push n s) e0):=by
 obtain ⟨T,⟨aA,ad,D,fr,ai,l,ou⟩,h⟩:=h;obtain ⟨aY,V,a9,ba,bA⟩:=info_parts wW;obtain ⟨a,q,af,hcap,hmax⟩:=h.st.form;simp only at af;subst af;have L:Hid (ea B R c w0 w T ⟨aA,.slice a s.stack.length q,D,fr,ai,l,ou⟩ s):=h;obtain ⟨-, -,ae, -, -, -, -, -, -, -, -, -,d,Y⟩:=h.cell;simp only at ae;unfold maxLen at hmax;have b:=h.bst;have a6:=h.ltR;clear h
 by_cases X:s.stack.length<2048
 . have A:Hid (Mc.push n s = .ok () { s with stack:=s.stack++[n] }):=if_pos X
   go_enter func221,ntmps221;go_wp2_with fail;refine (k0 _ _ _ Og).mono ?_;rintro e G ⟨rfl,rfl⟩
   go_wp2_with (at_builtin;refine wpList_append_lies _ rfl _ _ _ rfl B 3 aY _ 1 8 Tryz.underlying49 V a9 ba bA rfl N8 (.slice a s.stack.length q) s.stack.length (ints s.stack) rfl (L.alloc _).st.own ⟨_,0,none⟩ 1 1 [.int .i64 n] rfl rfl (cell_one_new _ _ _) (by simp;rfl) N8 Oi N8 (by have:=L.hB;simp;omega) _ rfl ?_;intro al f dk hown1 ak a3 ac;obtain ⟨ab,ff,fl⟩:=(L.alloc _).far (fun k e=>L.st.mark k e) Oa ak;have g:=(ab 2).trans (L.alloc _).cell.2.2.1;have i:=ff 2;have P:=hid hown1;have bz:=hid ak;have aM:=hid a3;clear hown1 ak a3 ab ff)
   go_returns
   exact dM.ok A rfl ⟨_,_,(L.alloc _).setSt bz (by rw [len_snoc,← Be];exact P) (wX aM) (by rw [len_snoc];omega)⟩
 . have A:Hid (Mc.push n s = .stop { s with en:=6 }):=if_neg X
   go_enter func221,ntmps221;go_wp2_with fail;refine (qm R _ _ _ Og d (Y 12)).mono ?_;rintro e G ⟨rfl,rfl⟩;go_wp2_with fail;exact ⟨rfl,dM.stop A rfl ⟨_,_,L.setEn 6⟩⟩
theorem uz (l:List Int) (k:Nat) (h:k<l.length):(ints l)[k]? = some (.int .i64 (l.getD k 0)):=by
 simp [ints,List.getD_eq_getElem?_getD,List.getElem?_eq_getElem h]
def jX (B R:Nat) (c:Mc.Cfg) (w0:World) (L D:Value) (r:Mc.Res α) (rep:α->Value) (e:Ending) (G:World):Prop:=
 match r with
 | .ok a s=>e = .returned (rep a)/\∃ T v,ea B R c w0 G T v s/\v.lo=L/\v.da=D
 | .stop s=>e = .panicked (kf s.en)/\ed B R c w0 G s
theorem jX.ok {r:Mc.Res α} {rep:α->Value} {a:α} {v:Vs} (Q:r = .ok a s) (aL:u=rep a) (h:ea B R c w0 G T v s) (F:v.lo=L) (J:v.da=D):jX B R c w0 L D r rep (.returned u) G:=by
 subst Q;subst aL;exact ⟨rfl,T,v,h,F,J⟩
theorem jX.stop {r:Mc.Res α} {rep:α->Value} (Q:r = .stop s) (ar:e=s.en) (h:ed B R c w0 G s):jX B R c w0 L D r rep (.panicked (kf e)) G:=by
 subst Q;subst ar;exact ⟨rfl,h⟩
theorem jX.plain {r:Mc.Res α} {rep:α->Value} {e:Ending} (h:jX B R c w0 L D r rep e G):dM B R c w0 r rep e G:=by
 cases r with
 | ok a s=>obtain ⟨F,T,v,J,_⟩:=h;exact ⟨F,T,v,J⟩
 | stop s=>exact h
theorem rB (B R:Nat) (c:Mc.Cfg) (w0:World) (s:Mc.St) (w:World) (T:Nat->Nat) (v:Vs) (h:ea B R c w0 w T v s) :
 Calls prog 225 #[.pointer (some ⟨R,0,none⟩)] w (fun e G=>jX B R c w0 v.lo v.da (Mc.pop s) intV e G/\∀ k,k≠R->G.heap[k]? = w.heap[k]?):=by
 obtain ⟨aA,ad,D,fr,ai,l,ou⟩:=v;simp only
 by_cases X:0<s.stack.length
 . obtain ⟨k,N⟩:∃ k,s.stack.length=k+1:=⟨s.stack.length - 1,N8⟩
   have A:Hid (Mc.pop s = .ok (s.stack.getD k 0) { s with stack:=s.stack.take k }):=by
    show Mc.pop s=_;unfold Mc.pop
    rw [if_pos X,N];rfl
   obtain ⟨al,q,af,hcap,hmax,hBg,hgl,c2,bY,hcell⟩:=h.st.place X;simp only at af;subst af;have S:=hcell k _ (uz _ k N8);generalize s.stack.getD k 0=x at *;have b:=h.bst;rw [N] at b hcap;have bJ:Hid (s.stack.length=k+1):=N;have L:Hid (ea B R c w0 w T ⟨aA,.slice (some ⟨al,0,none⟩) s.stack.length q,D,fr,ai,l,ou⟩ s):=h;obtain ⟨-, -,ae, -, -, -, -, -, -, -, -, -, -,Y⟩:=h.cell;simp only [N] at ae;unfold maxLen at hmax;clear h hcell X N;go_enter func225,ntmps225;go_wp2_with fail;refine (k0 _ _ _ Oc).mono ?_;rintro e G ⟨rfl,rfl⟩;go_wp2_with fail
   go_returns
   have b1:(s.stack.take k).length=k:=by rw [List.length_take,bJ.out];omega
   refine ⟨jX.ok A rfl (L.setSt (grown_refl _ _) ?_ (fun j e _=>e) (by rw [b1];omega)) rfl rfl,fun k N=>Below.heap_setCell _ _ _ k N⟩;have:=(L.st.cut (m:=k) (by rw [bJ.out];omega) rfl).own;rw [Nat.mul_one,uw] at this;rw [b1];exact this
 . have A:Hid (Mc.pop s = .stop { s with en:=6 }):=if_neg X
   obtain ⟨a,q,af,hcap,hmax⟩:=h.st.form;simp only at af;subst af;have L:Hid (ea B R c w0 w T ⟨aA,.slice a s.stack.length q,D,fr,ai,l,ou⟩ s):=h;obtain ⟨-, -,ae, -, -, -, -, -, -, -, -, -,d,Y⟩:=h.cell
   have ab:s.stack.length=0:=N8
   simp only [ab] at ae;clear h X ab hcap;go_enter func225,ntmps225;go_wp2_with fail;refine (qm R _ _ _ Oc d (Y 12)).mono ?_;rintro e G ⟨rfl,rfl⟩;go_wp2_with fail;exact ⟨rfl,jX.stop A rfl ⟨_,_,L.setEn 6⟩,fun k N=>Below.heap_setCell _ _ _ k N⟩
theorem pn (B R:Nat) (c:Mc.Cfg) (w0:World) (s:Mc.St) (w:World) (h:ed B R c w0 w s) :
 Calls prog 225 #[.pointer (some ⟨R,0,none⟩)] w (dM B R c w0 (Mc.pop s) intV):=by
 obtain ⟨T,v,h⟩:=h
 exact (rB B R c w0 s w T v h).mono fun e G h=>h.1.plain
theorem tell_any (B R:Nat) (c:Mc.Cfg) (w0:World) (s:Mc.St) (n:Int) (w:World) (h:ed B R c w0 w s) :
 Calls prog 234 #[.pointer (some ⟨R,0,none⟩),.int .i64 n] w (dM B R c w0 (Mc.tell n s) e0):=by
 obtain ⟨T,⟨aA,ad,D,fr,ai,l,ou⟩,h⟩:=h;obtain ⟨aY,V,a9,ba,bA⟩:=info_parts wW;obtain ⟨a,q,af,hcap,hmax⟩:=h.ou.form;simp only at af;subst af;have L:Hid (ea B R c w0 w T ⟨aA,ad,D,fr,ai,l,.slice a s.out.length q⟩ s):=h;obtain ⟨-, -, -, -, -, -, -,aq, -, -, -, -,d,Y⟩:=h.cell;simp only at aq;unfold maxLen at hmax;have g:=h.bou;have a6:=h.ltR;clear h
 by_cases X:s.out.length=200
 . have A:Hid (Mc.tell n s = .stop { s with en:=5 }):=if_pos X
   have I:((s.out.length:Int) == 200)=true:=beq_iff_eq.2 N8;clear X;go_enter func234,ntmps234;go_wp2_with fail;refine (stop_any R _ _ _ d (Y 12)).mono ?_;rintro e G ⟨rfl,rfl⟩;go_wp2_with fail;exact ⟨rfl,dM.stop A rfl ⟨_,_,L.setEn 5⟩⟩
 . have A:Hid (Mc.tell n s = .ok () { s with out:=s.out++[n] }):=if_neg X
   have I:((s.out.length:Int) == 200)=false:=beq_eq_false_iff_ne.2 N8
   have j:s.out.length<200:=N8
   clear X;go_enter func234,ntmps234
   go_wp2_with (at_builtin;refine wpList_append_lies _ rfl _ _ _ rfl B 3 aY _ 1 8 Tryz.underlying49 V a9 ba bA rfl N8 (.slice a s.out.length q) s.out.length (ints s.out) rfl (L.alloc _).ou.own ⟨_,0,none⟩ 1 1 [.int .i64 n] rfl rfl (cell_one_new _ _ _) (by simp;rfl) N8 Oi N8 (by have:=L.hB;simp;omega) _ rfl ?_;intro al f dk hown1 ak a3 ac;obtain ⟨ab,ff,fl⟩:=(L.alloc _).far (fun k e=>L.ou.mark k e) Oa ak;have i:=(ab 7).trans (L.alloc _).cell.2.2.2.2.2.2.2.1;have b:=ff 7;have P:=hid hown1;have bz:=hid ak;have aM:=hid a3;clear hown1 ak a3 ab ff)
   go_returns
   exact dM.ok A rfl ⟨_,_,(L.alloc _).setOu bz (by rw [len_snoc,← Be];exact P) (wX aM) (by rw [len_snoc];omega)⟩
theorem tick_any (B R:Nat) (c:Mc.Cfg) (w0:World) (s:Mc.St) (w:World) (h:ed B R c w0 w s) :
 Calls prog 232 #[.pointer (some ⟨R,0,none⟩)] w (dM B R c w0 (Mc.tick c.mt s) e0):=by
 obtain ⟨T,v,h⟩:=h;have L:Hid (ea B R c w0 w T v s):=h;obtain ⟨-, -, -, -, -, -, -, -,c8,aw, -, -,d,Y⟩:=h.cell;have S:=h.tk.1;have a8:=h.tk.2;have a:=h.cfg.mt;have a6:=h.ltR;clear h
 by_cases X:s.ticks=c.mt
 . have A:Hid (Mc.tick c.mt s = .stop { s with en:=3 }):=if_pos X
   have I:(s.ticks == c.mt)=true:=beq_iff_eq.2 X;clear X;go_enter func232,ntmps232;go_wp2_with fail
   go_quiet ((fail))
   go_wp2_with fail;refine (stop_any R _ _ _ (by simpa using d) (by simpa using Y 12)).mono ?_;rintro e G ⟨rfl,rfl⟩;go_wp2_with fail;exact ⟨rfl,dM.stop A rfl ⟨_,_,(L.drewN _).setEn 3⟩⟩
 . have A:Hid (Mc.tick c.mt s = .ok () { s with ticks:=s.ticks+1 }):=if_neg X
   have I:(s.ticks == c.mt)=false:=beq_eq_false_iff_ne.2 X
   have ac:s.ticks<c.mt:=N8
   clear X;go_enter func232,ntmps232;go_wp2_with fail
   go_quiet ((fail))
   go_wp2_with fail
   go_returns
   exact dM.ok A rfl ⟨_,_,(L.drewN _).setTicks _ N8 N8⟩
theorem next_any (B R:Nat) (c:Mc.Cfg) (w0:World) (s:Mc.St) (w:World) (h:ed B R c w0 w s) :
 Calls prog 233 #[.pointer (some ⟨R,0,none⟩)] w (dM B R c w0 (Mc.next s) intV):=by
 obtain ⟨T,⟨aA,ad,D,fr,ai,l,ou⟩,h⟩:=h;obtain ⟨a,q,af,hcap,hmax,hcells⟩:=h.inp;simp only at af;subst af;have L:Hid (ea B R c w0 w T ⟨aA,ad,D,fr,ai,.slice a s.inp.length q,ou⟩ s):=h;obtain ⟨-, -, -, -, -, -,aW, -, -, -, -, -, -,Y⟩:=h.cell;simp only at aW;have a6:=h.ltR;have d:=h.bin;unfold maxLen at hmax
 cases E:s.inp with
 | nil=>
   have A:Hid (Mc.next s = .ok 0 s):=by
    show Mc.next s=_
    have e:{ s with inp:=s.inp.tail }=s:=by rw [E];cases s;simp_all
    unfold Mc.next
    rw [e,E];rfl
   rw [E] at aW;simp only [List.length_nil] at aW;clear h hcap hcells d E;go_enter func233,ntmps233;exact SQ
 | cons x r=>
   have A:Hid (Mc.next s = .ok x { s with inp:=r }):=by
    show Mc.next s=_;unfold Mc.next
    rw [E];rfl
   rw [E] at aW d hcap hcells
   rcases hcells with W | ⟨b,C,rfl,hbB,W⟩
   . cases W
   have S:w.cell? ⟨b,C,none⟩=some (.int .i64 x):=(h.below.cell (p:=⟨b,C,none⟩) hbB).trans (W 0 Oc)
   have y:Hid (rA w0 B (.slice (some ⟨b,C+1,none⟩) r.length (q - 1)) r):=by
    refine ⟨_,_,rfl,by simp at hcap;omega,Oi,?_⟩
    cases r with
    | nil=>exact Or.inl rfl
    | cons a3 r=>exact Or.inr ⟨b,C+1,rfl,hbB,fun i V=>by
     have:=W (i+1) (by simp at V ⊢;omega);rw [show C+(i+1)=C+1+i from N8] at this
     simpa using this⟩
   simp only [List.length_cons] at aW d hcap;generalize Q:r.length=n at *;have z:Hid (r.length=n):=Q;clear h W E Q
   by_cases aO:q=1
   . subst aO
     obtain rfl:n=0:=N8
     have f:r=[]:=List.eq_nil_of_length_eq_zero z;subst f;clear y
     have y:Hid (rA w0 B (.slice (some ⟨b,C,none⟩) 0 0) []):=⟨_,_,rfl,Nat.le_refl _,Oi,Or.inl rfl⟩
     go_enter func233,ntmps233;go_wp2_with fail
     go_returns
     exact dM.ok A rfl ⟨_,_,L.setIn _ _ y Oc⟩
   . go_enter func233,ntmps233
     go_wp2_with fail
     go_returns
     exact dM.ok A rfl ⟨_,_,L.setIn _ _ y (by rw [z.out];omega)⟩
open Go.RowKit
def InsFit (i:Mc.Ins):Prop:=fit64 i.a/\fit64 i.b
def ImgAt (w:World) (a:Option Addr) (f:List Mc.Ins):Prop:=
 f=[]\/∃ b C,a=some ⟨b,C,none⟩/\b<w.heap.size/\∀ i (h:i<f.length),
  w.cell? ⟨b,C+i*3,none⟩=some (.int .i64 f[i].op)/\w.cell? ⟨b,C+i*3+1,none⟩=some (.int .i64 f[i].a)/\w.cell? ⟨b,C+i*3+2,none⟩=some (.int .i64 f[i].b)
theorem ImgAt.later {f:List Mc.Ins} (h:ImgAt w a f) (I:Below w.heap.size w G):ImgAt G a f:=by
 rcases h with h | ⟨b,C,e,X,h⟩
 . exact Or.inl h
 . exact Or.inr ⟨b,C,e,Nat.lt_of_lt_of_le X I.size,fun i V=>⟨(I.cell (p:=⟨b,C+i*3,none⟩) X).trans (h i V).1,(I.cell (p:=⟨b,C+i*3+1,none⟩) X).trans (h i V).2.1,(I.cell (p:=⟨b,C+i*3+2,none⟩) X).trans (h i V).2.2⟩⟩
theorem ImgAt.place {f:List Mc.Ins} (h:ImgAt w a f) {k:Nat} (N:k<f.length):∃ b C,a=some ⟨b,C,none⟩/\b<w.heap.size/\
 w.cell? ⟨b,C+k*3,none⟩=some (.int .i64 f[k].op)/\w.cell? ⟨b,C+k*3+1,none⟩=some (.int .i64 f[k].a)/\w.cell? ⟨b,C+k*3+2,none⟩=some (.int .i64 f[k].b):=by
 rcases h with h | ⟨b,C,e,X,h⟩
 . subst h;simp at N
 . exact ⟨b,C,e,X,h k N⟩
def opB (i:Mc.Ins):Bool:=decide (1<=i.op)&&decide (i.op<=22)
def checkI (f:List Mc.Ins) (d:Int):Int:=
 if f.length<1\/2048<f.length then 2 else if f.all opB then (if d<0\/512<d then 3 else 0) else 4
theorem all_snoc (d:List α) (p:α->Bool) (k:Nat) (h:k<d.length):(d.take (k+1)).all p=((d.take k).all p&&p d[k]):=by
 rw [List.take_succ_eq_append_getElem h,List.all_append];simp
theorem all_not (d:List α) (p:α->Bool) (k:Nat) (h:k<d.length) (aA:p d[k]=false):d.all p=false:=by
 rw [List.all_eq_false];exact ⟨d[k],List.getElem_mem _,by simp [aA]⟩
theorem Check_any (a:Option Addr) (q:Nat) (f:List Mc.Ins) (d:Int) (w:World) (H:ImgAt w a f) (X:f.length<=1000000000000000) :
 Calls prog 46 #[.agg #[.slice a f.length q,.int .i64 d]] w fun e G=>e = .returned (.int .i64 (checkI f d))/\Below w.heap.size w G:=by
 have aM:Hid (ImgAt w a f):=H;clear H
 by_cases F:f.length<1\/2048<f.length
 . have aD:Hid (checkI f d=2):=if_pos F
   have o:f.length<1\/1<=f.length/\2048<f.length:=N8
   clear F;generalize f.length=n at *
   rcases o with F | ⟨F,J⟩
   all_goals
    go_enter func46,ntmps46;go_wp2_with fail;go_ret;exact ⟨ret_int aD.symm,(Below.refl _ _).alloc (Nat.le_refl _) _⟩
 have b3:¬ f.length<1:=fun h=>F (Or.inl h)
 have aV:¬ 2048<f.length:=fun h=>F (Or.inr h)
 have c:Hid (checkI f d=if f.all opB then (if d<0\/512<d then 3 else 0) else 4):=if_neg F;clear F;go_enter func46,ntmps46;go_wp2_with fail
 go_loopw [18,4] (fun i _ wr=>∃ k:Nat,k<=f.length/\i = .int .i64 k/\(f.take k).all opB=true/\Below (w.heap.size+1) (w.alloc (.cells #[.slice a f.length q,.int .i64 d] 81)) wr) (fun i _ _=>f.length - (intOf i).toNat)
 case atStart=>exact ⟨0,Nat.zero_le _,rfl,rfl,Below.refl _ _⟩
 case round=>
  obtain ⟨k,N,rfl,aS,I⟩:=hrel;have aR:=hid aS;have ag:Hid (Below w.heap.size w wr):=((Below.refl _ _).alloc (Nat.le_refl _) _).trans (I.mono N8);clear aS
  by_cases ac:k<f.length
  . obtain ⟨b,C,rfl,bb,bt,ah,ae⟩:=(aM.later ag).place ac
    have aQ:=hid (all_snoc f opB k ac)
    by_cases aw:1<=f[k].op/\f[k].op<=22
    . obtain ⟨L,aW⟩:=aw
      have P:Hid (opB f[k]=true):=by show opB f[k]=true;simp [opB,L,aW]
      go_wp2_with fail;go_roundw
      case rel=>exact ⟨k+1,N8,by go_num,by rw [aQ.out,aR.out,P.out];rfl,I.alloc (by have:=I.size;simp at this;omega) _⟩
      case measure=>simp [intOf];omega
    . have aD:Hid (checkI f d=4):=by
       show checkI f d=4
       rw [c.out,all_not f opB k ac (by simp [opB];omega)];rfl
      by_cases Q:f[k].op<1
      . clear aw
        exact SU
      . have p:22<f[k].op:=by omega
        clear aw;exact SU
  . have P:Hid (checkI f d=if d<0\/512<d then 3 else 0):=by
     show checkI f d=_;have:=aR.out;rw [List.take_of_length_le N8] at this
     rw [c.out,this];rfl
    have aH:wr.cell? ⟨w.heap.size,1,none⟩=some (.int .i64 d):=(I.cell (p:=⟨w.heap.size,1,none⟩) Oc).trans Oc
    by_cases hd:d<0
    . have aD:Hid (checkI f d=3):=P.trans (if_pos (Or.inl hd))
      exact Se
    . by_cases V:512<d
      . have aD:Hid (checkI f d=3):=P.trans (if_pos (Or.inr V))
        exact Se
      . have aD:Hid (checkI f d=0):=P.trans (if_neg N8)
        exact Se
def errR (f:List Mc.Ins) (d:Int) (n:Nat) (m c:Int):Int:=
 if checkI f d≠0 then checkI f d else if 64<n then 2 else if m<0\/2000<m\/c<0\/134217728<c then 3 else 0
theorem Hc (a:Option Addr) (q:Nat) (f:List Mc.Ins) (d:Int) (r:Option Addr) (n b:Nat) (m c:Int) (w:World) (H:ImgAt w a f) (X:f.length<=1000000000000000) (Z:n<=1000000000000000) :
 Calls prog 109 #[.agg #[.slice a f.length q,.int .i64 d],.slice r n b,.int .i64 m,.int .i64 c] w fun e G=>e = .returned (.int .i64 (errR f d n m c))/\Below w.heap.size w G:=by
 have aM:Hid (ImgAt w a f):=H
 have ao:Hid (∀ w:World,ImgAt w a f->Calls prog 46 #[.agg #[.slice a f.length q,.int .i64 d]] w fun e G=>e = .returned (.int .i64 (checkI f d))/\Below w.heap.size w G):=fun w h=>Check_any a q f d w h X
 have aP:Hid (errR f d n m c=if checkI f d≠0 then checkI f d else if 64<n then 2 else if m<0\/2000<m\/c<0\/134217728<c then 3 else 0):=rfl;clear H;generalize errR f d n m c=y at *;generalize checkI f d=j at *
 by_cases W:j=0
 . subst W
   by_cases i:64<n
   . have aD:Hid (y=2):=aP.trans ((if_neg Oc).trans (if_pos i))
     exact QZ
   . have aD:Hid (y=if m<0\/2000<m\/c<0\/134217728<c then 3 else 0):=aP.trans ((if_neg Oc).trans (if_neg i))
     by_cases Q:m<0\/2000<m\/c<0\/134217728<c
     . have x:Hid (y=3):=aD.trans (if_pos Q)
       have a7:m<0\/(¬ m<0/\2000<m)\/(¬ m<0/\¬ 2000<m/\c<0)\/(¬ m<0/\¬ 2000<m/\¬ c<0/\134217728<c):=N8
       clear Q
       rcases a7 with F | ⟨F,J⟩ | ⟨F,J,U⟩ | ⟨F,J,U,aa⟩
       all_goals
        exact Q0
     . have x:Hid (y=0):=aD.trans (if_neg Q)
       have F:¬ m<0:=N8
       have J:¬ 2000<m:=N8
       have U:¬ c<0:=N8
       have aa:¬ 134217728<c:=N8
       clear Q;exact Q0
 . have aD:Hid (y=j):=aP.trans (if_pos W)
   have l:(j != 0)=true:=by rw [bne_iff_ne];exact W
   clear W;exact QZ
open Go.RowKit
def startS (d:Nat) (inp:List Int):Mc.St:={ pc:=0,stack:=[],gs:=[],lo:=[],bk:=0,data:=List.replicate d 0,inp:=inp,out:=[],ticks:=0,steps:=0,en:=0 }
def oq (d:Nat):Array Value:=madeCells #[.int .i64 0] d
theorem Hd (d:Nat):(oq d).size=d:=size_madeCells _ _
theorem He (d:Nat):(oq d).toList=ints (List.replicate d 0):=by
 apply List.ext_getElem?
 intro i
 by_cases h:i<d
 . simp [oq,madeCells,ints,h,Nat.mod_one]
 . simp [oq,madeCells,ints,h]
theorem Hf:(prog.info? 3).map (fun i=>(i.zero,i.size,i.bytes))=some (some (.int .i64 0),1,8):=by kernel_rfl
theorem Hg (d:Nat) (hd:d<=512) (w:World):(Instr.makeSlice 49 (.int .i64 (d:Int)) (.int .i64 (d:Int))).run prog w = .ok (.slice (some ⟨w.heap.size,0,none⟩) d d) (w.alloc (.cells (oq d) 3)):=by
 obtain ⟨aY,V,a9,ba,bA⟩:=info_parts Hf;have:=run_make (P:=prog) w 49 3 aY _ Tryz.underlying49 V a9 .i64 .i64 (d:Int) (d:Int) N8 N8 (by rw [bA];omega) N8;rw [this,ba,Nat.mul_one,Int.toNat_natCast]
 rfl
theorem Hh {M:World} {i fQ d:Nat} {aA l:Value} {inp:List Int} (I:Below w.heap.size w M) (hR:w.heap.size<=R) (Y:w.heap.size<=i) (a:w.heap.size<=fQ) (F:R≠i) (J:R≠fQ) (U:i≠fQ)
 (b:M.heap[R]? = some (.cells #[aA,.int .i64 0,.slice none 0 0,.slice none 0 0,.slice (some ⟨i,0,none⟩) 1 1,.slice (some ⟨fQ,0,none⟩) d d,l,.slice none 0 0,.int .i64 c.mt,.int .i64 0,.int .i64 c.ms,.int .i64 0,.int .i64 0] 168 (0,0)))
 (B:M.heap[i]? = some (.cells #[.int .i64 0,.int .i64 0] 231 (0,0))) (o:M.heap[fQ]? = some (.cells (oq d) 3 (0,0)))
 (W:uy c) (j:wU w w.heap.size aA c.code) (V:rA w w.heap.size l inp) (E:inp.length<=64) (hd:d<=512) (ax:0<=c.mt) (a8:0<=c.ms) :
 ea w.heap.size R c w M (fun k=>if k=R then 1 else if k=i then 4 else if k=fQ then 5 else 9) ⟨aA,.slice none 0 0,.slice none 0 0,.slice (some ⟨i,0,none⟩) 1 1,.slice (some ⟨fQ,0,none⟩) d d,l,.slice none 0 0⟩ (startS d inp) where
 blk:=b
 hR:=hR
 tR:=if_pos rfl
 st:=⟨World.ownsRow_nil _ _ _ _,fun k e=>by cases e⟩
 lo:=⟨World.ownsRow_nil _ _ _ _,fun k e=>by cases e⟩
 fr:=⟨⟨rfl,Or.inr ⟨i,1,_,rfl,Y,B,Nat.le_refl _,Oi,rfl,rfl⟩⟩,fun k e=>by
  have e:i=k:=by simpa [Value.ownBlock] using e
  subst e;show (if i=R then 1 else if i=i then 4 else if i=fQ then 5 else 9)=4
  rw [if_neg (Ne.symm F),if_pos rfl]⟩
 da:=⟨⟨by rw [qn,Nat.mul_one],Or.inr ⟨fQ,d,_,Qd,a,o,Qd,Oi,by rw [Hd,Nat.mul_one],by
  rw [Nat.mul_one,He]
  exact List.take_of_length_le (by rw [qn];exact Nat.le_refl _)⟩⟩,fun k e=>by
  have e:fQ=k:=by simpa [Value.ownBlock] using e
  subst e;show (if fQ=R then 1 else if fQ=i then 4 else if fQ=fQ then 5 else 9)=5
  rw [if_neg (Ne.symm J),if_neg (Ne.symm U),if_pos rfl]⟩
 ou:=⟨World.ownsRow_nil _ _ _ _,fun k e=>by cases e⟩
 below:=I
 cfg:=W
 code:=j
 inp:=V
 bst:=Qd
 bgs:=Qd
 bfr:=fun f Y=>by simp [startS] at Y
 blo:=Qd
 bda:=by simp [startS];exact hd
 bou:=Qd
 bin:=E
 tk:=⟨Int.le_refl _,ax⟩
 sp:=⟨Int.le_refl _,a8⟩
theorem Bf (w:World) (bE ab V au:Obj):((((w.alloc bE).alloc ab).alloc V).alloc au).drew.heap[w.heap.size+1]? = some ab/\((((w.alloc bE).alloc ab).alloc V).alloc au).drew.heap[w.heap.size+1+1]? = some V/\((((w.alloc bE).alloc ab).alloc V).alloc au).drew.heap[w.heap.size+1+1+1]? = some au/\Below w.heap.size w ((((w.alloc bE).alloc ab).alloc V).alloc au).drew:=by
 have e:∀ (v:World) (aj:Obj),(v.alloc aj).heap=v.heap.push aj:=fun _ _=>rfl
 have aI:∀ v:World,v.drew.heap=v.heap:=fun _=>rfl
 refine ⟨?_,?_,?_,((((Below.refl _ _).alloc (Nat.le_refl _) _).alloc Oc _).alloc Og _).alloc Og _ |>.drew⟩
 . simp only [e,aI,Array.getElem?_push,Array.size_push]
   rw [if_neg N8,if_neg N8,if_pos trivial]
 . simp only [e,aI,Array.getElem?_push,Array.size_push]
   rw [if_neg N8,if_pos trivial]
 . simp only [e,aI,Array.getElem?_push,Array.size_push]
   rw [if_pos trivial]
theorem Hi (a r:Option Addr) (q n m b d:Nat) (c:Mc.Cfg) (g:List Int) (w:World) (hd:d<=512)
 (W:uy c) (j:wU w w.heap.size (.slice a n q) c.code) (V:rA w w.heap.size (.slice r m b) g) (E:g.length<=64) (ax:0<=c.mt) (a8:0<=c.ms) :
 Calls prog 110 #[.agg #[.slice a n q,.int .i64 d],.slice r m b,.int .i64 c.mt,.int .i64 c.ms] w fun e G=>∃ R T v,e = .returned (.pointer (some ⟨R,0,none⟩))/\ea w.heap.size R c w G T v (startS d g):=by
 have c2:=Hg d hd
 have aQ:Hid (∀ (M:World) (R i fQ:Nat),Below w.heap.size w M->w.heap.size<=R->w.heap.size<=i->w.heap.size<=fQ->R≠i->R≠fQ->i≠fQ->
  M.heap[R]? = some (.cells #[.slice a n q,.int .i64 0,.slice none 0 0,.slice none 0 0,.slice (some ⟨i,0,none⟩) 1 1,.slice (some ⟨fQ,0,none⟩) d d,.slice r m b,.slice none 0 0,.int .i64 c.mt,.int .i64 0,.int .i64 c.ms,.int .i64 0,.int .i64 0] 168 (0,0))->
  M.heap[i]? = some (.cells #[.int .i64 0,.int .i64 0] 231 (0,0))->M.heap[fQ]? = some (.cells (oq d) 3 (0,0))->∃ T v,ea w.heap.size R c w M T v (startS d g)):=fun M R i fQ F J U aa aB bj ar p l B=>⟨_,_,Hh F J U aa aB bj ar p l B W j V E hd ax a8⟩
 clear W j V E ax a8;go_enter func110,ntmps110;go_wp2_with fail
 go_region
 all_goals
  go_wp2_with fail
  go_returns
 . obtain ⟨a9,au,bn,t⟩:=Bf w (.cells #[.slice a n q,.int .i64 (d:Int)] 81) (.cells #[.int .i64 0,.int .i64 0] 231) (.cells (oq d) 3) (.cells #[.slice a n q,.int .i64 0,.slice none 0 0,.slice none 0 0,.slice (some ⟨w.heap.size+1,0,none⟩) 1 1,.slice (some ⟨w.heap.size+1+1,0,none⟩) d d,.slice r m b,.slice none 0 0,.int .i64 c.mt,.int .i64 0,.int .i64 c.ms,.int .i64 0,.int .i64 0] 168)
   obtain ⟨T,v,h⟩:=aQ _ (w.heap.size+1+1+1) (w.heap.size+1) (w.heap.size+1+1) t N8 N8 N8 N8 N8 N8 bn a9 au;exact ⟨_,T,v,rfl,h⟩
 . obtain ⟨a9,au,bn,t⟩:=Bf w (.cells #[.slice a n q,.int .i64 (d:Int)] 81) (.cells (oq d) 3) (.cells #[.int .i64 0,.int .i64 0] 231) (.cells #[.slice a n q,.int .i64 0,.slice none 0 0,.slice none 0 0,.slice (some ⟨w.heap.size+1+1,0,none⟩) 1 1,.slice (some ⟨w.heap.size+1,0,none⟩) d d,.slice r m b,.slice none 0 0,.int .i64 c.mt,.int .i64 0,.int .i64 c.ms,.int .i64 0,.int .i64 0] 168)
   obtain ⟨T,v,h⟩:=aQ _ (w.heap.size+1+1+1) (w.heap.size+1+1) (w.heap.size+1) t N8 N8 N8 N8 N8 N8 bn au a9;exact ⟨_,T,v,rfl,h⟩
end Mx
end Go.Proofs.YtndkhgakfodldaaGreatDoor
